/- SrMath, SrExp, SrAdd, SrTail, SrRef, SrRefW, SrRefX, SrLaw, SrHold, SrDiff, SrFwd, SrSeq, SrExpAt, SrAddsM, SrSeqX, SrEdge, SrOdds, SrMeet, SrAlive, SrTo, SrScalM, SrWith, SrExpGe, SrLn, SrLnIn, SrLnDoc, SrRat: joined. -/
import Derived.Test.YtijhdlkfihjbiaaGreatDoorLimbs
import Derived.Test.YtijhdlkfihjbiaaGreatDoorK3
import Derived.Test.YtijhdlkfihjbiaaGreatDoorK1
import Derived.Test.YtijhdlkfihjbiaaGreatDoorK2
import Derived.Deep.Cut
/- Sums without an end, held between two numbers, over fractions: atanh and exp as they are reckoned from the last term to the first (Horner), and what cutting each step down leaves out. -/
namespace Go.Proofs.YtijhdlkfihjbiaaGreatDoor

theorem nat_div_le (a b : Nat) : ((a / b : Nat) : Rat) * b ≤ a := by
  have h := Nat.div_mul_le_self a b
  have h2 : ((a / b * b : Nat) : Rat) ≤ (a : Rat) := by exact_mod_cast h
  grind
theorem nat_div_ge (a b : Nat) (hb : 0 < b) : (a : Rat) ≤ ((a / b : Nat) : Rat) * b + b := by
  have h : a ≤ a / b * b + b := by
    have h1 := Nat.div_add_mod a b
    have h2 := Nat.mod_lt a hb
    rw [Nat.mul_comm] at h1
    omega
  have h2 : (a : Rat) ≤ ((a / b * b + b : Nat) : Rat) := by exact_mod_cast h
  grind
theorem rmul_le {a b c : Rat} (h : a ≤ b) (hc : 0 ≤ c) : c * a ≤ c * b := Rat.mul_le_mul_of_nonneg_left h hc
theorem rcancel {a b c : Rat} (h : c * a ≤ c * b) (hc : 0 < c) : a ≤ b := by
  rcases Rat.le_total (a := a) (b := b) with h1 | h1
  · exact h1
  · have h2 := rmul_le h1 (Rat.le_of_lt hc)
    have h3 : c * (a - b) = 0 := by grind
    have h4 : a - b = 0 := by grind
    grind
theorem rnat_pos {n : Nat} (h : 0 < n) : (0 : Rat) < (n : Rat) := by exact_mod_cast h
theorem rnat_nonneg (n : Nat) : (0 : Rat) ≤ (n : Rat) := by exact_mod_cast Nat.zero_le n

/-- One divided by an odd number. -/
theorem inv_odd (n : Nat) : 1 / ((2 * n + 1 : Nat) : Rat) ≤ 1 ∧ 0 ≤ 1 / ((2 * n + 1 : Nat) : Rat) := by
  have h : (1 : Rat) ≤ ((2 * n + 1 : Nat) : Rat) := by exact_mod_cast (show 1 ≤ 2 * n + 1 by omega)
  have h0 : (0 : Rat) < ((2 * n + 1 : Nat) : Rat) := by grind
  generalize ((2 * n + 1 : Nat) : Rat) = d at *
  constructor
  · rw [Rat.div_def]
    have := rmul_le h (Rat.le_of_lt (Rat.inv_pos.2 h0))
    grind
  · rw [Rat.div_def]
    have := Rat.le_of_lt (Rat.inv_pos.2 h0)
    grind

/-- 1/(2n+1) + y/(2n+3) + .. : c terms. -/
def hh (y : Rat) : Nat → Nat → Rat
  | 0, _ => 0
  | c + 1, n => 1 / ((2 * n + 1 : Nat) : Rat) + y * hh y c (n + 1)
theorem hh_bd {y : Rat} (h0 : 0 ≤ y) (h1 : 9 * y ≤ 1) : ∀ c n, 0 ≤ hh y c n ∧ 8 * hh y c n ≤ 9 := by
  intro c
  induction c with
  | zero => intro n; simp [hh]; decide
  | succ c ih =>
    intro n
    obtain ⟨i1, i2⟩ := ih (n + 1)
    obtain ⟨j1, j2⟩ := inv_odd n
    have k1 := rmul_le i1 h0
    have k2 := rmul_le i2 h0
    have k3 := rmul_le h1 i1
    simp only [hh]
    constructor
    · grind
    · grind
/-- More terms. -/
theorem hh_more {y : Rat} : ∀ c d n, hh y (c + d) n = hh y c n + y ^ c * hh y d (n + c) := by
  intro c
  induction c with
  | zero =>
    intro d n
    simp only [hh, Rat.pow_zero, Nat.zero_add, Nat.add_zero]
    grind
  | succ c ih =>
    intro d n
    have e : c + 1 + d = (c + d) + 1 := by omega
    rw [e]
    simp only [hh]
    rw [ih d (n + 1), show n + 1 + c = n + (c + 1) by omega, Rat.pow_succ]
    grind
theorem rpow_nonneg {y : Rat} (h : 0 ≤ y) (c : Nat) : 0 ≤ y ^ c := by
  induction c with
  | zero => rw [Rat.pow_zero]; decide
  | succ c ih =>
    rw [Rat.pow_succ]
    have := rmul_le h ih
    grind
theorem hh_mono {y : Rat} (h0 : 0 ≤ y) (h1 : 9 * y ≤ 1) (c d n : Nat) : hh y c n ≤ hh y (c + d) n := by
  rw [hh_more]
  have := rmul_le (hh_bd h0 h1 d (n + c)).1 (rpow_nonneg h0 c)
  grind
/-- What is left out: at most 9/8 of y to the power of the number of terms. -/
theorem hh_tail {y : Rat} (h0 : 0 ≤ y) (h1 : 9 * y ≤ 1) (c d n : Nat) : 8 * hh y (c + d) n ≤ 8 * hh y c n + 9 * y ^ c := by
  rw [hh_more]
  have := rmul_le (hh_bd h0 h1 d (n + c)).2 (rpow_nonneg h0 c)
  grind

/-- As it is reckoned at scale P: each step cut down. -/
def dh (P q : Nat) : Nat → Nat → Nat
  | 0, _ => 0
  | c + 1, n => P / (2 * n + 1) + dh P q c (n + 1) * q / P
/-- Not above. -/
theorem dh_le {P q : Nat} {y : Rat} (hP : 0 < P) (hq : (q : Rat) ≤ P * y) : ∀ c n, (dh P q c n : Rat) ≤ P * hh y c n := by
  intro c
  induction c with
  | zero => intro n; simp [dh, hh]
  | succ c ih =>
    intro n
    have i := ih (n + 1)
    have p0 := rnat_pos hP
    have a1 := nat_div_le P (2 * n + 1)
    have a2 := nat_div_le (dh P q c (n + 1) * q) P
    have a3 : (((P / (2 * n + 1) : Nat) : Rat)) ≤ P * (1 / ((2 * n + 1 : Nat) : Rat)) := by
      have d0 : (0 : Rat) < ((2 * n + 1 : Nat) : Rat) := rnat_pos (by omega)
      refine rcancel (c := ((2 * n + 1 : Nat) : Rat)) ?_ d0
      generalize ((2 * n + 1 : Nat) : Rat) = d at *
      have : d * (P * (1 / d)) = P := by grind
      rw [this]
      grind
    have q0 := rnat_nonneg q
    have b1 := rmul_le i q0
    have b2 := rmul_le hq (show 0 ≤ P * hh y c (n + 1) from by have := rnat_nonneg (dh P q c (n + 1)); grind)
    have b3 : ((dh P q c (n + 1) * q / P : Nat) : Rat) ≤ P * (y * hh y c (n + 1)) := by
      refine rcancel (c := (P : Rat)) ?_ p0
      have e : ((dh P q c (n + 1) * q : Nat) : Rat) = (dh P q c (n + 1) : Rat) * q := by exact_mod_cast rfl
      rw [e] at a2
      grind
    simp only [dh, hh]
    have e2 : ((P / (2 * n + 1) + dh P q c (n + 1) * q / P : Nat) : Rat) = ((P / (2 * n + 1) : Nat) : Rat) + ((dh P q c (n + 1) * q / P : Nat) : Rat) := by exact_mod_cast rfl
    rw [e2]
    grind
/-- Not far below. -/
theorem dh_ge {P q : Nat} {y : Rat} (hP : 0 < P) (h0 : 0 ≤ y) (h1 : 9 * y ≤ 1) (hq : (q : Rat) ≤ P * y) (hq2 : P * y ≤ q + 2) : ∀ c n, P * hh y c n ≤ (dh P q c n : Rat) + 8 := by
  intro c
  induction c with
  | zero => intro n; simp only [dh, hh]; grind
  | succ c ih =>
    intro n
    have i := ih (n + 1)
    have u := dh_le hP hq c (n + 1)
    obtain ⟨g1, g2⟩ := hh_bd h0 h1 c (n + 1)
    have p0 := rnat_pos hP
    have a1 := nat_div_ge P (2 * n + 1) (by omega)
    have a2 := nat_div_ge (dh P q c (n + 1) * q) P hP
    have a3 : P * (1 / ((2 * n + 1 : Nat) : Rat)) ≤ ((P / (2 * n + 1) : Nat) : Rat) + 1 := by
      have d0 : (0 : Rat) < ((2 * n + 1 : Nat) : Rat) := rnat_pos (by omega)
      refine rcancel (c := ((2 * n + 1 : Nat) : Rat)) ?_ d0
      generalize ((2 * n + 1 : Nat) : Rat) = d at *
      have : d * (P * (1 / d)) = P := by grind
      rw [this]
      grind
    have e : ((dh P q c (n + 1) * q : Nat) : Rat) = (dh P q c (n + 1) : Rat) * q := by exact_mod_cast rfl
    rw [e] at a2
    simp only [dh, hh]
    have e2 : ((P / (2 * n + 1) + dh P q c (n + 1) * q / P : Nat) : Rat) = ((P / (2 * n + 1) : Nat) : Rat) + ((dh P q c (n + 1) * q / P : Nat) : Rat) := by exact_mod_cast rfl
    rw [e2]
    have d0 := rnat_nonneg (dh P q c (n + 1))
    generalize hh y c (n + 1) = H at *
    generalize (dh P q c (n + 1) : Rat) = D at *
    generalize ((dh P q c (n + 1) * q / P : Nat) : Rat) = F at *
    generalize ((P / (2 * n + 1) : Nat) : Rat) = C at *
    generalize (1 / ((2 * n + 1 : Nat) : Rat)) = I at *
    generalize (q : Rat) = Q at *
    generalize (P : Rat) = R at *
    have b3 : R * (y * H) ≤ F + 6 := by
      refine rcancel (c := R) ?_ p0
      have t1 := rmul_le i (show 0 ≤ R * y from by have := rmul_le h0 (Rat.le_of_lt p0); grind)
      have t2 := rmul_le hq2 d0
      have t3 := rmul_le h1 (Rat.le_of_lt p0)
      have t4 := rmul_le g2 (Rat.le_of_lt p0)
      grind
    grind

/-- c terms of atanh. -/
def atS (x : Rat) (c : Nat) : Rat := x * hh (x * x) c 0
/-- As the document reckons it at scale P, with c terms. -/
def dA (P num den c : Nat) : Nat := dh P (num * P / den * (num * P / den) / P) c 0 * (num * P / den) / P
theorem third {x : Rat} (h0 : 0 ≤ x) (h1 : 3 * x ≤ 1) : 0 ≤ x * x ∧ 9 * (x * x) ≤ 1 := by
  have a := rmul_le h0 h0
  have b := rmul_le h1 h0
  constructor <;> grind
theorem atS_mono {x : Rat} (h0 : 0 ≤ x) (h1 : 3 * x ≤ 1) (c d : Nat) : atS x c ≤ atS x (c + d) := by
  obtain ⟨y0, y1⟩ := third h0 h1
  exact rmul_le (hh_mono y0 y1 c d 0) h0
/-- What the document reckons: not above so many terms, and not far below any number of them. -/
theorem dA_spec {P num den c : Nat} {x : Rat} (hP : 8 ≤ P) (hd : 0 < den) (hx : x * den = num) (h3 : 3 * num ≤ den) (hc : (P : Rat) * (x * x) ^ c ≤ 1) :
    (dA P num den c : Rat) ≤ P * atS x c ∧ ∀ M, P * atS x M ≤ (dA P num den c : Rat) + 8 := by
  have d0 := rnat_pos hd
  have p0 := rnat_pos (show 0 < P by omega)
  have p8 : (8 : Rat) ≤ (P : Rat) := by exact_mod_cast hP
  have n0 := rnat_nonneg num
  have x0 : 0 ≤ x := rcancel (c := (den : Rat)) (by grind) d0
  have h3' : 3 * (num : Rat) ≤ den := by exact_mod_cast h3
  have x1 : 3 * x ≤ 1 := rcancel (c := (den : Rat)) (by grind) d0
  obtain ⟨y0, y1⟩ := third x0 x1
  obtain ⟨r, hr⟩ : ∃ r, num * P / den = r := ⟨_, rfl⟩
  obtain ⟨q, hq⟩ : ∃ q, r * r / P = q := ⟨_, rfl⟩
  have r1 := nat_div_le (num * P) den
  have r2 := nat_div_ge (num * P) den hd
  rw [hr] at r1 r2
  have e1 : ((num * P : Nat) : Rat) = (num : Rat) * P := by exact_mod_cast rfl
  rw [e1] at r1 r2
  have s1 : (r : Rat) ≤ P * x := rcancel (c := (den : Rat)) (by grind) d0
  have s2 : P * x ≤ (r : Rat) + 1 := rcancel (c := (den : Rat)) (by grind) d0
  have q1 := nat_div_le (r * r) P
  have q2 := nat_div_ge (r * r) P (by omega)
  rw [hq] at q1 q2
  have e2 : ((r * r : Nat) : Rat) = (r : Rat) * r := by exact_mod_cast rfl
  rw [e2] at q1 q2
  have r0 := rnat_nonneg r
  have t1 : (q : Rat) ≤ P * (x * x) := by
    refine rcancel (c := (P : Rat)) ?_ p0
    have a := rmul_le s1 r0
    have b := rmul_le s1 (show 0 ≤ P * x by grind)
    grind
  have t2 : P * (x * x) ≤ (q : Rat) + 2 := by
    refine rcancel (c := (P : Rat)) ?_ p0
    have a := rmul_le s2 (show 0 ≤ P * x by grind)
    have b := rmul_le s2 (show 0 ≤ (r : Rat) + 1 by grind)
    have c3 := rmul_le x1 (Rat.le_of_lt p0)
    grind
  have A := dh_le (show 0 < P by omega) t1 c 0
  have B := dh_ge (show 0 < P by omega) y0 y1 t1 t2 c 0
  obtain ⟨g1, g2⟩ := hh_bd y0 y1 c 0
  have f1 := nat_div_le (dh P q c 0 * r) P
  have f2 := nat_div_ge (dh P q c 0 * r) P (by omega)
  have e3 : ((dh P q c 0 * r : Nat) : Rat) = (dh P q c 0 : Rat) * r := by exact_mod_cast rfl
  rw [e3] at f1 f2
  have hd0 := rnat_nonneg (dh P q c 0)
  have hdA : dA P num den c = dh P q c 0 * r / P := by unfold dA; rw [hr, hq]
  rw [hdA]
  constructor
  · refine rcancel (c := (P : Rat)) ?_ p0
    unfold atS
    have a := rmul_le s1 hd0
    have b := rmul_le A (show 0 ≤ P * x by grind)
    grind
  · intro M
    have tail : 8 * hh (x * x) M 0 ≤ 8 * hh (x * x) c 0 + 9 * (x * x) ^ c := by
      rcases Nat.le_total M c with h | h
      · obtain ⟨k, rfl⟩ : ∃ k, c = M + k := ⟨c - M, by omega⟩
        have a := hh_mono y0 y1 M k 0
        have b := rpow_nonneg y0 (M + k)
        grind
      · obtain ⟨k, rfl⟩ : ∃ k, M = c + k := ⟨M - c, by omega⟩
        exact hh_tail y0 y1 c k 0
    unfold atS
    have w0 := rpow_nonneg y0 c
    generalize ((x * x) ^ c : Rat) = w at *
    generalize hh (x * x) M 0 = HM at *
    generalize hh (x * x) c 0 = H at *
    generalize (dh P q c 0 : Rat) = D at *
    generalize ((dh P q c 0 * r / P : Nat) : Rat) = F at *
    generalize (r : Rat) = R at *
    generalize (P : Rat) = p at *
    refine rcancel (c := p) ?_ p0
    have px0 : 0 ≤ p * x := by have := rmul_le x0 (Rat.le_of_lt p0); grind
    have a1 := rmul_le tail px0
    have a2 := rmul_le B px0
    have a3 := rmul_le s2 hd0
    have a4 := rmul_le hc x0
    have a5 := rmul_le x1 (Rat.le_of_lt p0)
    have a6 := rmul_le g2 (Rat.le_of_lt p0)
    have a7 := rmul_le a4 (Rat.le_of_lt p0)
    have a8 := rmul_le a1 (Rat.le_of_lt p0)
    have a9 := rmul_le a2 (Rat.le_of_lt p0)
    grind
end Go.Proofs.YtijhdlkfihjbiaaGreatDoor
/- exp as it is reckoned from the last term to the first, over fractions, and what cutting each step down leaves out. -/
namespace Go.Proofs.YtijhdlkfihjbiaaGreatDoor

/-- 1 + x/n + x^2/(n (n+1)) + .. : c terms behind the 1. -/
def ge_ (x : Rat) : Nat → Nat → Rat
  | 0, _ => 1
  | c + 1, n => 1 + x * (1 / (n : Rat)) * ge_ x c (n + 1)
/-- x^c / (n (n+1) .. (n+c-1)). -/
def tt (x : Rat) : Nat → Nat → Rat
  | 0, _ => 1
  | c + 1, n => x * (1 / (n : Rat)) * tt x c (n + 1)
theorem inv_nat {n : Nat} (hn : 0 < n) : ∃ i : Rat, 1 / (n : Rat) = i ∧ (n : Rat) * i = 1 ∧ 0 ≤ i ∧ i ≤ 1 := by
  have h0 := rnat_pos hn
  have h1 : (1 : Rat) ≤ (n : Rat) := by exact_mod_cast hn
  refine ⟨_, rfl, by grind, ?_, ?_⟩
  · rw [Rat.div_def]
    have := Rat.le_of_lt (Rat.inv_pos.2 h0)
    grind
  · rw [Rat.div_def]
    have := rmul_le h1 (Rat.le_of_lt (Rat.inv_pos.2 h0))
    grind
theorem tt_nonneg {x : Rat} (h0 : 0 ≤ x) : ∀ c n, 0 < n → 0 ≤ tt x c n := by
  intro c
  induction c with
  | zero => intro n _; simp only [tt]; decide
  | succ c ih =>
    intro n hn
    obtain ⟨i, hi, i1, i2, i3⟩ := inv_nat hn
    have a := ih (n + 1) (by omega)
    simp only [tt]
    rw [hi]
    have b := rmul_le i2 h0
    have d := rmul_le a (show 0 ≤ x * i by grind)
    grind
/-- At most 1 + 2/n. -/
theorem ge_bd {x : Rat} (h0 : 0 ≤ x) (h1 : x ≤ 1) : ∀ c n, 0 < n → 1 ≤ ge_ x c n ∧ (n : Rat) * ge_ x c n ≤ n + 2 := by
  intro c
  induction c with
  | zero =>
    intro n _
    simp only [ge_]
    constructor
    · grind
    · grind
  | succ c ih =>
    intro n hn
    obtain ⟨i, hi, i1, i2, i3⟩ := inv_nat hn
    obtain ⟨a, b⟩ := ih (n + 1) (by omega)
    have e : ((n + 1 : Nat) : Rat) = (n : Rat) + 1 := by exact_mod_cast rfl
    rw [e] at b
    have n1 : (1 : Rat) ≤ (n : Rat) := by exact_mod_cast hn
    simp only [ge_]
    rw [hi]
    generalize ge_ x c (n + 1) = G at *
    generalize (n : Rat) = m at *
    have xi := rmul_le i2 h0
    have g2 : G ≤ 2 := by
      refine rcancel (c := m + 1) ?_ (by grind)
      grind
    have k1 := rmul_le a (show 0 ≤ x * i by grind)
    have k2 := rmul_le h1 (show 0 ≤ G by grind)
    constructor
    · grind
    · have : m * (1 + x * i * G) = m + x * G := by grind
      rw [this]
      grind
/-- More terms. -/
theorem ge_more {x : Rat} : ∀ c d n, ge_ x (c + d) n = ge_ x c n + tt x c n * (ge_ x d (n + c) - 1) := by
  intro c
  induction c with
  | zero =>
    intro d n
    simp only [ge_, tt, Nat.zero_add, Nat.add_zero]
    grind
  | succ c ih =>
    intro d n
    rw [show c + 1 + d = (c + d) + 1 by omega]
    simp only [ge_, tt]
    rw [ih d (n + 1), show n + 1 + c = n + (c + 1) by omega]
    grind
theorem ge_mono {x : Rat} (h0 : 0 ≤ x) (h1 : x ≤ 1) (c d n : Nat) (hn : 0 < n) : ge_ x c n ≤ ge_ x (c + d) n := by
  rw [ge_more]
  have a := (ge_bd h0 h1 d (n + c) (by omega)).1
  have b := rmul_le (show 0 ≤ ge_ x d (n + c) - 1 by grind) (tt_nonneg h0 c n hn)
  grind
/-- What is left out: at most twice the last term. -/
theorem ge_tail {x : Rat} (h0 : 0 ≤ x) (h1 : x ≤ 1) (c d n : Nat) (hn : 0 < n) : ge_ x (c + d) n ≤ ge_ x c n + 2 * tt x c n := by
  rw [ge_more]
  obtain ⟨a, b⟩ := ge_bd h0 h1 d (n + c) (by omega)
  have m1 : (1 : Rat) ≤ ((n + c : Nat) : Rat) := by exact_mod_cast (show 1 ≤ n + c by omega)
  have g3 : ge_ x d (n + c) ≤ 3 := by
    generalize ge_ x d (n + c) = G at *
    generalize ((n + c : Nat) : Rat) = m at *
    refine rcancel (c := m) ?_ (by grind)
    grind
  have k := rmul_le (show ge_ x d (n + c) - 1 ≤ 2 by grind) (tt_nonneg h0 c n hn)
  grind

/-- As the document reckons it at scale P. -/
def de (P a : Nat) : Nat → Nat → Nat
  | 0, _ => P
  | c + 1, n => P + de P a c (n + 1) * a / P / n
theorem de_le {P a : Nat} {x : Rat} (hP : 0 < P) (hx : (a : Rat) = P * x) (h0 : 0 ≤ x) : ∀ c n, 0 < n → (de P a c n : Rat) ≤ P * ge_ x c n := by
  intro c
  induction c with
  | zero => intro n _; simp only [de, ge_]; grind
  | succ c ih =>
    intro n hn
    obtain ⟨i, hi, i1, i2, i3⟩ := inv_nat hn
    have u := ih (n + 1) (by omega)
    have p0 := rnat_pos hP
    have m0 := rnat_pos hn
    have f1 := nat_div_le (de P a c (n + 1) * a) P
    have f2 := nat_div_le (de P a c (n + 1) * a / P) n
    have e : ((de P a c (n + 1) * a : Nat) : Rat) = (de P a c (n + 1) : Rat) * a := by exact_mod_cast rfl
    rw [e, hx] at f1
    simp only [de, ge_]
    have e2 : ((P + de P a c (n + 1) * a / P / n : Nat) : Rat) = (P : Rat) + ((de P a c (n + 1) * a / P / n : Nat) : Rat) := by exact_mod_cast rfl
    rw [e2, hi]
    have d0 := rnat_nonneg (de P a c (n + 1))
    generalize ge_ x c (n + 1) = G at *
    generalize (de P a c (n + 1) : Rat) = D at *
    generalize ((de P a c (n + 1) * a / P : Nat) : Rat) = F at *
    generalize ((de P a c (n + 1) * a / P / n : Nat) : Rat) = H at *
    generalize (n : Rat) = m at *
    generalize (P : Rat) = p at *
    have k1 : F ≤ D * x := by
      refine rcancel (c := p) ?_ p0
      grind
    have k2 := rmul_le u h0
    have k3 : H ≤ p * (x * i * G) := by
      refine rcancel (c := m) ?_ m0
      have : m * (p * (x * i * G)) = p * x * G := by grind
      rw [this]
      grind
    grind
theorem de_ge {P a : Nat} {x : Rat} (hP : 0 < P) (hx : (a : Rat) = P * x) (h0 : 0 ≤ x) (h1 : x ≤ 1) : ∀ (c n : Nat), 0 < n → (n : Rat) * (P * ge_ x c n) ≤ (n : Rat) * (de P a c n : Rat) + 2 * (n : Rat) + 4 := by
  intro c
  induction c with
  | zero =>
    intro n hn
    have m0 := rnat_pos hn
    simp only [de, ge_]
    grind
  | succ c ih =>
    intro n hn
    obtain ⟨i, hi, i1, i2, i3⟩ := inv_nat hn
    have u := ih (n + 1) (by omega)
    have p0 := rnat_pos hP
    have m0 := rnat_pos hn
    have m1 : (1 : Rat) ≤ (n : Rat) := by exact_mod_cast hn
    have f1 := nat_div_ge (de P a c (n + 1) * a) P hP
    have f2 := nat_div_ge (de P a c (n + 1) * a / P) n hn
    have e : ((de P a c (n + 1) * a : Nat) : Rat) = (de P a c (n + 1) : Rat) * a := by exact_mod_cast rfl
    have e3 : ((n + 1 : Nat) : Rat) = (n : Rat) + 1 := by exact_mod_cast rfl
    rw [e, hx] at f1
    rw [e3] at u
    simp only [de, ge_]
    have e2 : ((P + de P a c (n + 1) * a / P / n : Nat) : Rat) = (P : Rat) + ((de P a c (n + 1) * a / P / n : Nat) : Rat) := by exact_mod_cast rfl
    rw [e2, hi]
    have d0 := rnat_nonneg (de P a c (n + 1))
    generalize ge_ x c (n + 1) = G at *
    generalize (de P a c (n + 1) : Rat) = D at *
    generalize ((de P a c (n + 1) * a / P : Nat) : Rat) = F at *
    generalize ((de P a c (n + 1) * a / P / n : Nat) : Rat) = H at *
    generalize (n : Rat) = m at *
    generalize (P : Rat) = p at *
    have v : p * G ≤ D + 4 := by
      refine rcancel (c := m + 1) ?_ (by grind)
      grind
    have k1 : D * x ≤ F + 1 := by
      refine rcancel (c := p) ?_ p0
      grind
    have k2 := rmul_le v h0
    have k4 := rmul_le h1 (show (0 : Rat) ≤ 4 by decide)
    have : m * (p * (1 + x * i * G)) = m * p + x * (p * G) := by grind
    rw [this]
    grind
/-- What the document reckons of exp, with c terms behind the 1. -/
theorem de_spec {P a c : Nat} {x : Rat} (hP : 0 < P) (hx : (a : Rat) = P * x) (h0 : 0 ≤ x) (h1 : x ≤ 1) (hc : P * tt x c 1 ≤ 1) :
    (de P a c 1 : Rat) ≤ P * ge_ x c 1 ∧ ∀ M, P * ge_ x M 1 ≤ (de P a c 1 : Rat) + 8 := by
  refine ⟨de_le hP hx h0 c 1 (by decide), fun M => ?_⟩
  have a1 := de_ge hP hx h0 h1 c 1 (by decide)
  have p0 := rnat_pos hP
  have tail : ge_ x M 1 ≤ ge_ x c 1 + 2 * tt x c 1 := by
    rcases Nat.le_total M c with h | h
    · obtain ⟨k, rfl⟩ : ∃ k, c = M + k := ⟨c - M, by omega⟩
      have b1 := ge_mono h0 h1 M k 1 (by decide)
      have b2 := tt_nonneg h0 (M + k) 1 (by decide)
      grind
    · obtain ⟨k, rfl⟩ : ∃ k, M = c + k := ⟨M - c, by omega⟩
      exact ge_tail h0 h1 c k 1 (by decide)
  have b := rmul_le tail (Rat.le_of_lt p0)
  have e : ((1 : Nat) : Rat) = 1 := by exact_mod_cast rfl
  rw [e] at a1
  grind
end Go.Proofs.YtijhdlkfihjbiaaGreatDoor
/- exp of a sum, by so many terms: held by the product of both, and holding it. -/
namespace Go.Proofs.YtijhdlkfihjbiaaGreatDoor

theorem tt_last {x : Rat} : ∀ (c n : Nat), 0 < n → ((n + c : Nat) : Rat) * tt x (c + 1) n = x * tt x c n := by
  intro c
  induction c with
  | zero =>
    intro n hn
    obtain ⟨i, hi, i1, _⟩ := inv_nat hn
    simp only [tt, Nat.add_zero]
    rw [hi]
    grind
  | succ c ih =>
    intro n hn
    obtain ⟨i, hi, i1, _⟩ := inv_nat hn
    have a := ih (n + 1) (by omega)
    rw [show n + 1 + c = n + (c + 1) by omega] at a
    have e1 : tt x (c + 1 + 1) n = x * (1 / (n : Rat)) * tt x (c + 1) (n + 1) := rfl
    have e2 : tt x (c + 1) n = x * (1 / (n : Rat)) * tt x c (n + 1) := rfl
    rw [e1, e2, hi]
    generalize tt x (c + 1) (n + 1) = T at *
    generalize tt x c (n + 1) = U at *
    generalize ((n + (c + 1) : Nat) : Rat) = m at *
    grind
/-- The terms. -/
def tk (x : Rat) (k : Nat) : Rat := tt x k 1
/-- So many terms. -/
def eS (x : Rat) (c : Nat) : Rat := ge_ x c 1
theorem tk_zero (x : Rat) : tk x 0 = 1 := rfl
theorem tk_succ (x : Rat) (k : Nat) : ((k + 1 : Nat) : Rat) * tk x (k + 1) = x * tk x k := by
  have := tt_last (x := x) k 1 (by decide)
  rw [Nat.add_comm 1 k] at this
  exact this
theorem eS_zero (x : Rat) : eS x 0 = 1 := rfl
theorem eS_succ (x : Rat) (c : Nat) : eS x (c + 1) = eS x c + tk x (c + 1) := by
  unfold eS tk
  rw [ge_more]
  have a := tt_last (x := x) c 1 (by decide)
  obtain ⟨i, hi, i1, _⟩ := inv_nat (n := 1 + c) (by omega)
  simp only [ge_]
  rw [hi]
  generalize tt x (c + 1) 1 = T at *
  generalize tt x c 1 = U at *
  generalize ((1 + c : Nat) : Rat) = m at *
  grind
theorem tk_nonneg {x : Rat} (h : 0 ≤ x) (k : Nat) : 0 ≤ tk x k := tt_nonneg h k 1 (by decide)

/-- f 0 + .. + f (n-1). -/
def sm (f : Nat → Rat) : Nat → Rat
  | 0 => 0
  | n + 1 => sm f n + f n
theorem sm_congr {f g : Nat → Rat} : ∀ n, (∀ i, i < n → f i = g i) → sm f n = sm g n := by
  intro n
  induction n with
  | zero => intro _; rfl
  | succ n ih =>
    intro h
    simp only [sm]
    rw [ih (fun i hi => h i (by omega)), h n (by omega)]
theorem sm_le {f g : Nat → Rat} : ∀ n, (∀ i, i < n → f i ≤ g i) → sm f n ≤ sm g n := by
  intro n
  induction n with
  | zero => intro _; simp only [sm]; grind
  | succ n ih =>
    intro h
    simp only [sm]
    have a := ih (fun i hi => h i (by omega))
    have b := h n (by omega)
    grind
theorem sm_add (f g : Nat → Rat) (n : Nat) : sm (fun i => f i + g i) n = sm f n + sm g n := by
  induction n with
  | zero => simp only [sm]; grind
  | succ n ih => simp only [sm]; grind
theorem sm_mul (f : Nat → Rat) (a : Rat) (n : Nat) : sm (fun i => a * f i) n = a * sm f n := by
  induction n with
  | zero => simp only [sm]; grind
  | succ n ih => simp only [sm]; grind
/-- The first one taken off. -/
theorem sm_head (f : Nat → Rat) (n : Nat) : sm f (n + 1) = f 0 + sm (fun i => f (i + 1)) n := by
  induction n with
  | zero => simp only [sm]; grind
  | succ n ih =>
    have e : sm f (n + 1 + 1) = sm f (n + 1) + f (n + 1) := rfl
    rw [e, ih]
    simp only [sm]
    grind
theorem sm_more {f : Nat → Rat} {n : Nat} (h : ∀ i, 0 ≤ f i) (m : Nat) : sm f n ≤ sm f (n + m) := by
  induction m with
  | zero => exact Rat.le_refl
  | succ m ih =>
    have e : sm f (n + (m + 1)) = sm f (n + m) + f (n + m) := rfl
    rw [e]
    have := h (n + m)
    grind
theorem eS_sum (x : Rat) (c : Nat) : eS x c = sm (tk x) (c + 1) := by
  induction c with
  | zero => simp only [sm]; rw [eS_zero, tk_zero]; grind
  | succ c ih => rw [eS_succ, ih]; rfl

/-- The terms of a product, by degree. -/
def ck (x y : Rat) (k : Nat) : Rat := sm (fun i => tk x i * tk y (k - i)) (k + 1)
theorem ck_succ (x y : Rat) (k : Nat) : ((k + 1 : Nat) : Rat) * ck x y (k + 1) = (x + y) * ck x y k := by
  have A : sm (fun i => (i : Rat) * (tk x i * tk y (k + 1 - i))) (k + 1 + 1) = x * ck x y k := by
    rw [sm_head]
    have e0 : ((0 : Nat) : Rat) * (tk x 0 * tk y (k + 1 - 0)) = 0 := by
      have : ((0 : Nat) : Rat) = 0 := rfl
      rw [this]; grind
    rw [e0]
    unfold ck
    rw [← sm_mul]
    have : sm (fun i => ((i + 1 : Nat) : Rat) * (tk x (i + 1) * tk y (k + 1 - (i + 1)))) (k + 1) = sm (fun i => x * (tk x i * tk y (k - i))) (k + 1) := by
      refine sm_congr _ (fun i _ => ?_)
      have a := tk_succ x i
      rw [show k + 1 - (i + 1) = k - i by omega]
      grind
    rw [this]
    grind
  have B : sm (fun i => ((k + 1 - i : Nat) : Rat) * (tk x i * tk y (k + 1 - i))) (k + 1 + 1) = y * ck x y k := by
    have e : sm (fun i => ((k + 1 - i : Nat) : Rat) * (tk x i * tk y (k + 1 - i))) (k + 1 + 1) = sm (fun i => ((k + 1 - i : Nat) : Rat) * (tk x i * tk y (k + 1 - i))) (k + 1) + ((k + 1 - (k + 1) : Nat) : Rat) * (tk x (k + 1) * tk y (k + 1 - (k + 1))) := rfl
    rw [e, Nat.sub_self]
    have z : ((0 : Nat) : Rat) = 0 := rfl
    rw [z]
    unfold ck
    rw [← sm_mul]
    have : sm (fun i => ((k + 1 - i : Nat) : Rat) * (tk x i * tk y (k + 1 - i))) (k + 1) = sm (fun i => y * (tk x i * tk y (k - i))) (k + 1) := by
      refine sm_congr _ (fun i hi => ?_)
      have a := tk_succ y (k - i)
      rw [show k - i + 1 = k + 1 - i by omega] at a
      grind
    rw [this]
    grind
  have C : sm (fun i => ((k + 1 : Nat) : Rat) * (tk x i * tk y (k + 1 - i))) (k + 1 + 1) = sm (fun i => (i : Rat) * (tk x i * tk y (k + 1 - i)) + ((k + 1 - i : Nat) : Rat) * (tk x i * tk y (k + 1 - i))) (k + 1 + 1) := by
    refine sm_congr _ (fun i hi => ?_)
    have e : ((k + 1 : Nat) : Rat) = (i : Rat) + ((k + 1 - i : Nat) : Rat) := by
      have : k + 1 = i + (k + 1 - i) := by omega
      exact_mod_cast this
    rw [e]
    grind
  rw [sm_add, A, B, sm_mul] at C
  have D : ck x y (k + 1) = sm (fun i => tk x i * tk y (k + 1 - i)) (k + 1 + 1) := rfl
  rw [D, C]
  grind
/-- The terms of exp of a sum. -/
theorem tk_add (x y : Rat) (k : Nat) : tk (x + y) k = ck x y k := by
  induction k with
  | zero =>
    unfold ck
    simp only [sm, Nat.sub_zero]
    rw [tk_zero, tk_zero, tk_zero]
    grind
  | succ k ih =>
    have a := tk_succ (x + y) k
    have b := ck_succ x y k
    rw [ih] at a
    have m0 : (0 : Rat) < ((k + 1 : Nat) : Rat) := rnat_pos (by omega)
    generalize ((k + 1 : Nat) : Rat) = m at *
    have h : m * (tk (x + y) (k + 1) - ck x y (k + 1)) = 0 := by grind
    grind
/-- exp of a sum, by rows. -/
theorem eS_rows (x y : Rat) (K : Nat) : eS (x + y) K = sm (fun i => tk x i * eS y (K - i)) (K + 1) := by
  induction K with
  | zero =>
    simp only [sm, Nat.sub_zero]
    rw [eS_zero, eS_zero, tk_zero]
    grind
  | succ K ih =>
    rw [eS_succ, ih, tk_add]
    have e1 : ck x y (K + 1) = sm (fun i => tk x i * tk y (K + 1 - i)) (K + 1) + tk x (K + 1) * tk y (K + 1 - (K + 1)) := rfl
    have e2 : sm (fun i => tk x i * eS y (K + 1 - i)) (K + 1 + 1) = sm (fun i => tk x i * eS y (K + 1 - i)) (K + 1) + tk x (K + 1) * eS y (K + 1 - (K + 1)) := rfl
    rw [e1, e2, Nat.sub_self, tk_zero, eS_zero]
    have e3 : sm (fun i => tk x i * eS y (K + 1 - i)) (K + 1) = sm (fun i => tk x i * eS y (K - i) + tk x i * tk y (K + 1 - i)) (K + 1) := by
      refine sm_congr _ (fun i hi => ?_)
      have := eS_succ y (K - i)
      rw [show K - i + 1 = K + 1 - i by omega] at this
      rw [this]
      grind
    rw [e3, sm_add]
    grind
theorem eS_nonneg {x : Rat} (h : 0 ≤ x) (c : Nat) : 1 ≤ eS x c := by
  induction c with
  | zero => rw [eS_zero]; exact Rat.le_refl
  | succ c ih =>
    rw [eS_succ]
    have := tk_nonneg h (c + 1)
    grind
theorem eS_mono {x : Rat} (h : 0 ≤ x) (c d : Nat) : eS x c ≤ eS x (c + d) := by
  rw [eS_sum, eS_sum, show c + d + 1 = c + 1 + d by omega]
  exact sm_more (tk_nonneg h) d
/-- exp of a sum isn't above the product of both, by as many terms. -/
theorem eS_add_le {x y : Rat} (hx : 0 ≤ x) (hy : 0 ≤ y) (K : Nat) : eS (x + y) K ≤ eS x K * eS y K := by
  rw [eS_rows]
  have a : sm (fun i => tk x i * eS y (K - i)) (K + 1) ≤ sm (fun i => eS y K * tk x i) (K + 1) := by
    refine sm_le _ (fun i hi => ?_)
    have m := eS_mono hy (K - i) i
    rw [Nat.sub_add_cancel (by omega)] at m
    have := rmul_le m (tk_nonneg hx i)
    grind
  rw [sm_mul, ← eS_sum] at a
  grind
/-- .. and the product of both isn't above it, by all the terms. -/
theorem eS_mul_le {x y : Rat} (hx : 0 ≤ x) (hy : 0 ≤ y) (N M : Nat) : eS x N * eS y M ≤ eS (x + y) (N + M) := by
  rw [eS_rows]
  have a : sm (fun i => eS y M * tk x i) (N + 1) ≤ sm (fun i => tk x i * eS y (N + M - i)) (N + 1) := by
    refine sm_le _ (fun i hi => ?_)
    have m := eS_mono hy M (N - i)
    rw [show M + (N - i) = N + M - i by omega] at m
    have := rmul_le m (tk_nonneg hx i)
    grind
  have b : sm (fun i => tk x i * eS y (N + M - i)) (N + 1) ≤ sm (fun i => tk x i * eS y (N + M - i)) (N + 1 + M) := by
    refine sm_more (fun i => ?_) M
    have h1 := eS_nonneg hy (N + M - i)
    have := rmul_le (show 0 ≤ eS y (N + M - i) by grind) (tk_nonneg hx i)
    grind
  rw [sm_mul, ← eS_sum] at a
  rw [show N + M + 1 = N + 1 + M by omega]
  grind
end Go.Proofs.YtijhdlkfihjbiaaGreatDoor
/- How many terms are enough: numbers alone. -/
namespace Go.Proofs.YtijhdlkfihjbiaaGreatDoor

theorem eight_pow {y : Rat} (h0 : 0 ≤ y) (h1 : 9 * y ≤ 1) : ∀ c : Nat, ((8 ^ c : Nat) : Rat) * y ^ c ≤ 1 := by
  intro c
  induction c with
  | zero =>
    have e1 : ((8 ^ 0 : Nat) : Rat) = 1 := by exact_mod_cast rfl
    have e2 : y ^ 0 = 1 := Rat.pow_zero _
    rw [e1, e2]
    grind
  | succ c ih =>
    have e1 : ((8 ^ (c + 1) : Nat) : Rat) = ((8 ^ c : Nat) : Rat) * 8 := by rw [Nat.pow_succ]; exact_mod_cast rfl
    have e2 : y ^ (c + 1) = y ^ c * y := Rat.pow_succ _ _
    have p0 := rpow_nonneg h0 c
    have n0 := rnat_nonneg (8 ^ c)
    rw [e1, e2]
    generalize ((8 ^ c : Nat) : Rat) = P at *
    generalize y ^ c = Q at *
    have q0 : 0 ≤ P * Q := by
      have := rmul_le p0 n0
      grind
    have m1 := rmul_le h1 q0
    have m2 := rmul_le h0 q0
    grind
/-- atanh: a ninth each. -/
theorem at_tail {x : Rat} (h0 : 0 ≤ x) (h1 : 3 * x ≤ 1) (s : Nat) : ((2 ^ s : Nat) : Rat) * (x * x) ^ (s / 3 + 3) ≤ 1 := by
  obtain ⟨y0, y1⟩ := third h0 h1
  have h := eight_pow y0 y1 (s / 3 + 3)
  have p0 := rpow_nonneg y0 (s / 3 + 3)
  have hle : 2 ^ s ≤ 8 ^ (s / 3 + 3) := by
    rw [show (8 : Nat) = 2 ^ 3 from rfl, ← Nat.pow_mul]
    exact Nat.pow_le_pow_right (by decide) (by omega)
  have hle' : ((2 ^ s : Nat) : Rat) ≤ ((8 ^ (s / 3 + 3) : Nat) : Rat) := by exact_mod_cast hle
  generalize ((2 ^ s : Nat) : Rat) = P at *
  generalize ((8 ^ (s / 3 + 3) : Nat) : Rat) = Q at *
  generalize (x * x) ^ (s / 3 + 3) = R at *
  have := rmul_le hle' p0
  grind

def fac : Nat → Nat
  | 0 => 1
  | n + 1 => (n + 1) * fac n
theorem fac_tk {x : Rat} (h0 : 0 ≤ x) (h1 : x ≤ 1) : ∀ n : Nat, (fac n : Rat) * tk x n ≤ 1 := by
  intro n
  induction n with
  | zero =>
    have e1 : ((fac 0 : Nat) : Rat) = 1 := by exact_mod_cast rfl
    rw [e1, tk_zero]
    grind
  | succ n ih =>
    have e1 : ((fac (n + 1) : Nat) : Rat) = ((n + 1 : Nat) : Rat) * (fac n : Rat) := by rw [fac]; exact_mod_cast rfl
    have e2 := tk_succ x n
    have k0 := tk_nonneg h0 n
    have f0 := rnat_nonneg (fac n)
    rw [e1]
    generalize ((n + 1 : Nat) : Rat) = N at *
    generalize (fac n : Rat) = F at *
    generalize tk x (n + 1) = T1 at *
    generalize tk x n = T at *
    have q0 : 0 ≤ F * T := by
      have := rmul_le k0 f0
      grind
    have m := rmul_le h1 q0
    have e3 : N * F * T1 = F * (N * T1) := by grind
    rw [e3, e2]
    grind
/-- exp: the factorial. -/
theorem ex_tail {x : Rat} (h0 : 0 ≤ x) (h1 : x ≤ 1) {s n : Nat} (h : 2 ^ s ≤ fac n) : ((2 ^ s : Nat) : Rat) * tt x n 1 ≤ 1 := by
  have hle : ((2 ^ s : Nat) : Rat) ≤ (fac n : Rat) := by exact_mod_cast h
  have k0 : 0 ≤ tt x n 1 := tk_nonneg h0 n
  have hf : (fac n : Rat) * tt x n 1 ≤ 1 := fac_tk h0 h1 n
  generalize ((2 ^ s : Nat) : Rat) = P at *
  generalize (fac n : Rat) = F at *
  generalize tt x n 1 = T at *
  have := rmul_le hle k0
  grind
/-- One factor more. -/
theorem fac_bits {b n : Nat} (h : 2 ^ b ≤ fac n) : 2 ^ (b + (blen (n + 1) - 1)) ≤ fac (n + 1) := by
  have h1 : 2 ^ (blen (n + 1) - 1) ≤ n + 1 := Nat.le_of_not_lt fun h9 => by
    have := blen_le_iff.2 h9
    have := blen_pos (show n + 1 ≠ 0 by omega)
    omega
  rw [Nat.pow_add, fac, Nat.mul_comm]
  exact Nat.mul_le_mul h1 h
end Go.Proofs.YtijhdlkfihjbiaaGreatDoor
/- The document's Atanh and Exp of layer 12, walked. -/
namespace Go.Proofs.YtijhdlkfihjbiaaGreatDoor
open Go.RowKit

theorem DTells.tight {w w' : World} {V L M : Nat} {e : Ending} (h : DTells w V L e w') (hV : V < 2 ^ (16 * M)) : DTells w V M e w' := by
  obtain ⟨A, m, c, ds, h1, h2, h3, h4, h5, h6⟩ := h
  refine ⟨A, m, c, ds, h1, ?_, h3, h4, h5, h6⟩
  have := D.len_of_lt (M := M) h4 (by rw [h5, D.pw_two]; exact hV)
  rw [h3.len] at this; exact this
theorem lt_two {V a b : Nat} (h : V < 2 ^ a) (hab : a ≤ b) : V < 2 ^ b := Nat.lt_of_lt_of_le h (Nat.pow_le_pow_right (by decide) hab)

theorem dlen_le {w : World} {A : Option Addr} {n c V M k : Nat} {ds : List Nat} (hA : Dig w A n c ds) (hb : D.Bare ds) (hv : D.val ds = V) (hV : V < 2 ^ k) (hk : k ≤ 16 * M) : n ≤ M := by
  have := D.len_of_lt (M := M) hb (by rw [hv, D.pw_two]; exact lt_two hV hk)
  rw [hA.len] at this; exact this



theorem rshift_l (V N M : Nat) (A : Option Addr) (n c : Nat) (ds : List Nat) (w : World) (hA : Dig w A n c ds) (ba : D.Bare ds) (hv : D.val ds = V) (hn : n ≤ 1000) (hN : N ≤ 9223372036854775807) (k : Nat) (hk : V / 2 ^ N < 2 ^ k) (hkM : k ≤ 16 * M) :
    Calls Tryz.prog 68 #[.slice A n c, .int .i64 (N : Int)] w (DTells w (V / 2 ^ N) M) := by
  have hM := lt_two hk hkM
  have h := rshr_any A n c ds N w hA ba (by omega) (by omega)
  rw [Int.toNat_natCast, hv] at h
  obtain ⟨bb, hbb⟩ : ∃ bb, decide (V % 2 ^ N ≠ 0) = bb := ⟨_, rfl⟩
  rw [hbb] at h
  obtain ⟨Q, hQ⟩ : ∃ Q, V / 2 ^ N = Q := ⟨_, rfl⟩
  rw [hQ] at h hk hM ⊢
  have H1 := Lib.hid h
  have HM := Lib.hid hM
  clear h hA ba hv hbb hQ hM hk hkM
  go_enter Tryz.func68, Tryz.ntmps68
  go_wp2_with fail
  refine H1.out.mono ?_
  rintro e w1 ⟨A1, m1, c1, es, rfl, hm1, hl1, hb1, hv1, hB1⟩
  have Hfin : Hid (DTells w Q M (.returned (.slice A1 m1 c1)) w1) := DTells.tight ⟨A1, m1, c1, es, rfl, hm1, hl1, hb1, hv1, hB1⟩ HM.out
  clear hl1 hb1 hv1 hB1 H1 HM
  go_wp2
  go_ret
  exact Hfin.out

theorem dh_bd {P q : Nat} (hP : 0 < P) (hq : 9 * q ≤ P) : ∀ c n, 8 * dh P q c n ≤ 9 * P := by
  intro c
  induction c with
  | zero => intro n; exact Nat.zero_le _
  | succ c ih =>
    intro n
    have h := ih (n + 1)
    rw [dh]
    have h1 : P / (2 * n + 1) ≤ P := Nat.div_le_self _ _
    have h2 : dh P q c (n + 1) * q / P * 8 ≤ P := by
      have h3 : dh P q c (n + 1) * q / P * 8 ≤ dh P q c (n + 1) * q * 8 / P := by
        rw [Nat.mul_comm, Nat.mul_comm _ 8]; exact Nat.mul_div_le_mul_div_assoc _ _ _
      have h4 : dh P q c (n + 1) * q * 8 ≤ P * P := by
        have h5 : 8 * dh P q c (n + 1) * q ≤ 9 * P * q := Nat.mul_le_mul_right q h
        have h6 : P * (9 * q) ≤ P * P := Nat.mul_le_mul_left P hq
        have e1 : dh P q c (n + 1) * q * 8 = 8 * dh P q c (n + 1) * q := by rw [Nat.mul_comm _ 8, Nat.mul_assoc]
        have e2 : 9 * P * q = P * (9 * q) := by rw [Nat.mul_comm 9 P, Nat.mul_assoc]
        rw [e1]; omega
      have h7 : dh P q c (n + 1) * q * 8 / P ≤ P := by
        have := Nat.div_le_div_right (c := P) h4
        rw [Nat.mul_div_cancel _ hP] at this
        exact this
      omega
    omega
/-- The fraction and its square. -/
theorem r_bd {P num den r : Nat} (hP : 0 < P) (hd : 0 < den) (h3 : 3 * num ≤ den) (hr : num * P / den = r) : 3 * r ≤ P ∧ 9 * (r * r / P) ≤ P := by
  have h1 : r * den ≤ num * P := by rw [← hr]; exact Nat.div_mul_le_self _ _
  have h2 : 3 * r * den ≤ P * den := by
    have h4 : 3 * (r * den) ≤ 3 * (num * P) := Nat.mul_le_mul_left 3 h1
    have h5 : 3 * num * P ≤ den * P := Nat.mul_le_mul_right P h3
    rw [Nat.mul_assoc, Nat.mul_comm P den]
    rw [Nat.mul_assoc] at h5
    omega
  have h6 : 3 * r ≤ P := Nat.le_of_mul_le_mul_right h2 hd
  refine ⟨h6, ?_⟩
  have h7 : 3 * r * (3 * r) ≤ P * P := Nat.mul_le_mul h6 h6
  have e : 3 * r * (3 * r) = 9 * (r * r) := by
    rw [Nat.mul_mul_mul_comm]
  have h8 : 9 * (r * r / P) ≤ 9 * (r * r) / P := Nat.mul_div_le_mul_div_assoc _ _ _
  have h9 : 9 * (r * r) / P ≤ P := by
    have := Nat.div_le_div_right (c := P) (e ▸ h7)
    rw [Nat.mul_div_cancel _ hP] at this
    exact this
  omega
end Go.Proofs.YtijhdlkfihjbiaaGreatDoor
/- The document's Atanh and Exp of layer 12: the loops. -/
namespace Go.Proofs.YtijhdlkfihjbiaaGreatDoor
open Go.RowKit

theorem dlen45 {w : World} {A : Option Addr} {n c s V : Nat} {ds : List Nat} (hA : Dig w A n c ds) (hb : D.Bare ds) (hv : D.val ds = V) (hV : V ≤ 4 * 2 ^ s) (hs : s ≤ 700) : n ≤ 45 := by
  have h1 : V < 2 ^ (s + 3) := by
    rw [Nat.pow_add]
    have := Nat.two_pow_pos s
    omega
  exact dlen_le hA hb hv h1 (by omega)
theorem div_small {a b P : Nat} (hP : 0 < P) (ha : a ≤ 4 * P) (hb : b ≤ P) : a * b / P ≤ 4 * P := by
  have h1 : a * b ≤ 4 * P * P := Nat.mul_le_mul ha hb
  have := Nat.div_le_div_right (c := P) h1
  rw [Nat.mul_div_cancel _ hP] at this
  exact this

set_option maxHeartbeats 4000000 in
theorem ratanh_l (s : Nat) (A : Option Addr) (n c : Nat) (us : List Nat) (B : Option Addr) (m d : Nat) (bs : List Nat) (w : World) (hA : Dig w A n c us) (hB : Dig w B m d bs) (ba : D.Bare us) (bb : D.Bare bs) (hn : n ≤ 300) (hm : m ≤ 300) (hs : s ≤ 700) (h0 : D.val bs ≠ 0) (h3 : 3 * D.val us ≤ D.val bs) :
    Calls Tryz.prog 66 #[.slice A n c, .slice B m d, .int .i64 (s : Int)] w (DTells w (dA (2 ^ s) (D.val us) (D.val bs) (s / 3 + 3)) 50) := by
  obtain ⟨P, hP⟩ : ∃ P, 2 ^ s = P := ⟨_, rfl⟩
  obtain ⟨X, hX⟩ : ∃ X, D.val us = X := ⟨_, rfl⟩
  obtain ⟨Y, hY⟩ : ∃ Y, D.val bs = Y := ⟨_, rfl⟩
  obtain ⟨r, hr⟩ : ∃ r, X * P / Y = r := ⟨_, rfl⟩
  obtain ⟨q, hq⟩ : ∃ q, r * r / P = q := ⟨_, rfl⟩
  obtain ⟨t, ht⟩ : ∃ t, s / 3 = t := ⟨_, rfl⟩
  obtain ⟨N, hN⟩ : ∃ N, t + 3 = N := ⟨_, rfl⟩
  have hP0 : 0 < P := by rw [← hP]; exact Nat.two_pow_pos s
  rw [hX, hY] at h3
  rw [hY] at h0
  have hb := r_bd hP0 (Nat.pos_of_ne_zero h0) h3 hr
  rw [hq] at hb
  have hG : dA (2 ^ s) (D.val us) (D.val bs) (s / 3 + 3) = dh P q N 0 * r / P := by
    unfold dA
    rw [hP, hX, hY, hr, hq, ht, hN]
  rw [hG]
  have HQ : Hid (3 * r ≤ P ∧ 9 * q ≤ P) := hb
  have HD : Hid (∀ c n, 8 * dh P q c n ≤ 9 * P) := dh_bd hP0 hb.2
  have HP := Lib.hid hP
  have HP0 := Lib.hid hP0
  have HY := Lib.hid hY
  have Hr := Lib.hid hr
  have Hq := Lib.hid hq
  have HB := Lib.hid hB
  have Hbb := Lib.hid bb
  have H1 := rshl_any A n c us s w hA ba (by omega) (by omega)
  rw [hX, hP] at H1
  replace H1 := Lib.hid H1
  have e3 : (s : Int) / 3 = (t : Int) := by omega
  have h0' := Lib.hid h0
  have hs9 : s < 100000 := by omega
  clear hA hB ba bb h3 h0 hX hY hr hq hb hG hP hP0 hn
  go_enter Tryz.func66, Tryz.ntmps66
  go_wp2_with fail
  refine H1.out.mono ?_
  rintro e w1 ⟨A1, m1, c1, es, rfl, hm1, hl1, hb1, hv1, hB1⟩
  have h2 := rdiv_any A1 m1 c1 es B m d bs w1 hl1 (HB.out.below hB1) hb1 Hbb.out hm1 (by omega) (by rw [HY.out]; exact h0'.out)
  rw [hv1, HY.out, Hr.out] at h2
  have H2 := Lib.hid h2
  have HS := Lib.hid hB1
  clear h2 hl1 hb1 hv1 hB1 H1
  go_wp2_with fail
  refine H2.out.mono ?_
  rintro e w2 ⟨A2, m2, c2, rs, A3, m3, c3, xs, rfl, hm2, hm3, hl2, hl3, hb2, hb3, hv2, hv3, hB2⟩
  have hl45 : m2 ≤ 45 := dlen45 hl2 hb2 hv2 (by rw [HP.out]; have := HQ.out.1; omega) hs
  have H3 := rmul_any A2 m2 c2 rs A2 m2 c2 rs w2 hl2 hl2 (by omega) (by omega)
  rw [hv2] at H3
  replace H3 := Lib.hid H3
  replace HS := Lib.hid (HS.out.trans (hB2.mono HS.out.size))
  have HR : Hid (Dig w2 A2 m2 c2 rs ∧ D.Bare rs ∧ D.val rs = r) := ⟨hl2, hb2, hv2⟩
  clear hl2 hl3 hb2 hb3 hv2 hv3 hB2 H2 hm2 hm3
  go_wp2_with fail
  refine H3.out.mono ?_
  rintro e w3 ⟨A4, m4, c4, es, rfl, hm4, hl4, hb4, hv4, hB4⟩
  have H4 := rshift_l (r * r) s 45 A4 m4 c4 es w3 hl4 hb4 hv4 (by omega) (by omega) (s + 1) (by
    rw [HP.out, Hq.out]
    have := HQ.out.2
    rw [Nat.pow_succ, HP.out]
    have := HP0.out
    omega) (by omega)
  rw [HP.out, Hq.out] at H4
  replace H4 := Lib.hid H4
  replace HS := Lib.hid (HS.out.trans (hB4.mono HS.out.size))
  replace HR : Hid (Dig w3 A2 m2 c2 rs ∧ D.Bare rs ∧ D.val rs = r) := ⟨HR.out.1.below hB4, HR.out.2⟩
  clear hl4 hb4 hv4 hB4 H3 hm4
  go_wp2_with fail
  refine H4.out.mono ?_
  rintro e w4 ⟨A5, m5, c5, qs, rfl, hm5, hl5, hb5, hv5, hB5⟩
  replace HS := Lib.hid (HS.out.trans (hB5.mono HS.out.size))
  replace HR : Hid (Dig w4 A2 m2 c2 rs ∧ D.Bare rs ∧ D.val rs = r) := ⟨HR.out.1.below hB5, HR.out.2⟩
  have HU : Hid (Dig w4 A5 m5 c5 qs ∧ D.Bare qs ∧ D.val qs = q) := ⟨hl5, hb5, hv5⟩
  have HN := Lib.hid hN
  clear hl5 hb5 hv5 hB5 H4 HB Hbb HY Hr Hq h0'
  go_wp2_with fail
  go_loopw [10, 11] (fun sm i wr => ∃ (j : Nat) (A6 : Option Addr) (m6 c6 : Nat) (ss : List Nat), j ≤ N ∧ i = .int .i64 ((j : Int) - 1) ∧ sm = .slice A6 m6 c6 ∧ m6 ≤ 45 ∧ Hid (Dig wr A6 m6 c6 ss) ∧ Hid (D.Bare ss) ∧ Hid (D.val ss = dh P q (N - j) j) ∧ Hid (Below w4.heap.size w4 wr)) (fun _ i _ => (intOf i + 1).toNat)
  case atStart => exact ⟨N, none, 0, 0, [], Nat.le_refl _, by rw [← hN]; go_num, rfl, Nat.zero_le _, Dig.nil _ _ _, rfl, by show _ = _; rw [Nat.sub_self]; rfl, Below.refl _ _⟩
  case round =>
    obtain ⟨w5, rfl⟩ : ∃ w5, w5 = wr := ⟨_, rfl⟩
    obtain ⟨j, A6, m6, c6, ss, hj, rfl, rfl, hm6, HL6, HB6, HV6, HS6⟩ := hrel
    have hN9 : N < 100100 := by omega
    clear hN
    by_cases hj0 : j = 0
    · subst hj0
      have H1 := rmul_any A6 m6 c6 ss A2 m2 c2 rs w5 HL6.out (HR.out.1.below HS6.out) (by omega) (by omega)
      rw [HV6.out, HR.out.2.2, Nat.sub_zero] at H1
      replace H1 := Lib.hid H1
      clear HV6 HL6 HB6
      go_wp2_with fail
      refine H1.out.mono ?_
      rintro e w6 ⟨A7, m7, c7, es, rfl, hm7, hl7, hb7, hv7, hB7⟩
      have H2 := rshift_l (dh P q N 0 * r) s 50 A7 m7 c7 es w6 hl7 hb7 hv7 (by omega) (by omega) (s + 3) (by
        rw [HP.out]
        have h1 := HD.out N 0
        have h2 := HQ.out.1
        have h4 := div_small HP0.out (show dh P q N 0 ≤ 4 * P by omega) (show r ≤ P by omega)
        rw [Nat.pow_add, HP.out]
        have := HP0.out
        omega) (by omega)
      rw [HP.out] at H2
      replace H2 := Lib.hid H2
      have HS7 := HS6.out.trans (hB7.mono HS6.out.size)
      have HS8 := Lib.hid (HS.out.trans (HS7.mono HS.out.size))
      clear hl7 hb7 hv7 hB7 H1 HS7 HS6
      go_wp2_with fail
      refine H2.out.mono ?_
      rintro e w7 ⟨A8, m8, c8, es, rfl, hm8, hl8, hb8, hv8, hB8⟩
      have Hfin : Hid (DTells w (dh P q N 0 * r / P) 50 (.returned (.slice A8 m8 c8)) w7) := ⟨A8, m8, c8, es, rfl, hm8, hl8, hb8, hv8, HS8.out.trans (hB8.mono HS8.out.size)⟩
      clear hl8 hb8 hv8 hB8 H2 HS8 HR HU HQ HD HP HP0 HS
      go_wp2
      go_ret
      exact Hfin.out
    · obtain ⟨k, rfl⟩ : ∃ k, j = k + 1 := ⟨j - 1, by omega⟩
      have e1 : ((k + 1 : Nat) : Int) - 1 = (k : Int) := by omega
      rw [e1]
      obtain ⟨z, hz⟩ : ∃ z, 2 * k + 1 = z := ⟨_, rfl⟩
      have ez : (2 : Int) * (k : Int) + 1 = (z : Int) := by omega
      have hz9 : z < 1000000 := by omega
      have Hz := Lib.hid hz
      have H1 := Lib.hid (num_any 1 (by decide) w5)
      clear e1 hj0 hz
      go_wp2_with fail
      refine H1.out.mono ?_
      rintro e w6 ⟨A7, m7, c7, es, rfl, hm7, hl7, hb7, hv7, hB7⟩
      have H2 := rshl_any A7 m7 c7 es s w6 hl7 hb7 (by omega) (by omega)
      rw [hv7, HP.out, Nat.one_mul] at H2
      replace H2 := Lib.hid H2
      replace HS6 := Lib.hid (HS6.out.trans (hB7.mono HS6.out.size))
      replace HL6 := Lib.hid (HL6.out.below hB7)
      clear hl7 hb7 hv7 hB7 H1
      go_wp2_with fail
      refine H2.out.mono ?_
      rintro e w7 ⟨A8, m8, c8, ps, rfl, hm8, hl8, hb8, hv8, hB8⟩
      have H3 := Lib.hid (num_any z (by omega) w7)
      replace HS6 := Lib.hid (HS6.out.trans (hB8.mono HS6.out.size))
      replace HL6 := Lib.hid (HL6.out.below hB8)
      have HPs : Hid (Dig w7 A8 m8 c8 ps ∧ D.Bare ps ∧ D.val ps = P) := ⟨hl8, hb8, hv8⟩
      clear hl8 hb8 hv8 hB8 H2
      go_wp2_with fail
      refine H3.out.mono ?_
      rintro e w8 ⟨A9, m9, c9, zs, rfl, hm9, hl9, hb9, hv9, hB9⟩
      have H4 := rdiv_any A8 m8 c8 ps A9 m9 c9 zs w8 (HPs.out.1.below hB9) hl9 HPs.out.2.1 hb9 hm8 (by omega) (by rw [hv9, ← Hz.out]; omega)
      rw [HPs.out.2.2, hv9] at H4
      replace H4 := Lib.hid H4
      replace HS6 := Lib.hid (HS6.out.trans (hB9.mono HS6.out.size))
      replace HL6 := Lib.hid (HL6.out.below hB9)
      clear hl9 hb9 hv9 hB9 H3 HPs
      go_wp2_with fail
      refine H4.out.mono ?_
      rintro e w9 ⟨Ac, mc, cc, cs, Ad, md, cd, ds, rfl, hmc, hmd, hlc, hld, hbc, hbd, hvc, hvd, hBc⟩
      replace HS6 := Lib.hid (HS6.out.trans (hBc.mono HS6.out.size))
      replace HL6 := Lib.hid (HL6.out.below hBc)
      have hmc45 : mc ≤ 45 := dlen45 hlc hbc hvc (by rw [HP.out]; have := Nat.div_le_self P z; omega) hs
      have HCs : Hid (Dig w9 Ac mc cc cs ∧ D.Bare cs ∧ D.val cs = P / z) := ⟨hlc, hbc, hvc⟩
      have H5 := rmul_any A6 m6 c6 ss A5 m5 c5 qs w9 HL6.out (HU.out.1.below HS6.out) (by omega) (by omega)
      rw [HV6.out, HU.out.2.2] at H5
      replace H5 := Lib.hid H5
      clear hlc hld hbc hbd hvc hvd hBc H4 hmc hmd HL6 HB6
      go_wp2_with fail
      refine H5.out.mono ?_
      rintro e wa ⟨Ae, me, ce, es, rfl, hme, hle, hbe, hve, hBe⟩
      have hbd2 : dh P q (N - (k + 1)) (k + 1) * q / P ≤ 4 * P := div_small HP0.out (by have := HD.out (N - (k + 1)) (k + 1); omega) (by have := HQ.out.2; omega)
      have H6 := rshift_l _ s 45 Ae me ce es wa hle hbe hve (by omega) (by omega) (s + 3) (by
        rw [HP.out]
        rw [Nat.pow_add, HP.out]
        have := HP0.out
        omega) (by omega)
      rw [HP.out] at H6
      replace H6 := Lib.hid H6
      replace HS6 := Lib.hid (HS6.out.trans (hBe.mono HS6.out.size))
      replace HCs : Hid (Dig wa Ac mc cc cs ∧ D.Bare cs ∧ D.val cs = P / z) := ⟨HCs.out.1.below hBe, HCs.out.2⟩
      clear hle hbe hve hBe H5 hbd2 hme
      go_wp2_with fail
      refine H6.out.mono ?_
      rintro e wb ⟨Af, mf, cf, fs, rfl, hmf, hlf, hbf, hvf, hBf⟩
      have H7 := radd_any Ac mc cc cs Af mf cf fs wb (HCs.out.1.below hBf) hlf HCs.out.2.1 hbf (by omega) (by omega)
      rw [HCs.out.2.2, hvf] at H7
      replace H7 := Lib.hid H7
      replace HS6 := Lib.hid (HS6.out.trans (hBf.mono HS6.out.size))
      clear hlf hbf hvf hBf H6 HCs
      go_wp2_with fail
      refine H7.out.mono ?_
      rintro e wc ⟨Ag, mg, cg, gs, rfl, hmg, hlg, hbg, hvg, hBg⟩
      have hval : D.val gs = dh P q (N - k) k := by
        rw [hvg, show N - k = (N - (k + 1)) + 1 by omega, dh, Hz.out]
      have hg45 : mg ≤ 45 := dlen45 hlg hbg hval (by rw [HP.out]; have := HD.out (N - k) k; omega) hs
      replace HS6 := Lib.hid (HS6.out.trans (hBg.mono HS6.out.size))
      have HLg := Lib.hid hlg
      have HBg := Lib.hid hbg
      have HVg := Lib.hid hval
      clear hlg hbg hvg hBg H7 hval HV6 hmg
      go_wp2
      go_roundw
      case rel => exact ⟨k, Ag, mg, cg, gs, by omega, by go_num, rfl, hg45, HLg, HBg, HVg, HS6⟩
      case measure => simp [intOf]
end Go.Proofs.YtijhdlkfihjbiaaGreatDoor
/- The document's Exp of layer 12: the loops. -/
namespace Go.Proofs.YtijhdlkfihjbiaaGreatDoor
open Go.RowKit

theorem de_bd {P a : Nat} (hP : 0 < P) (ha : a ≤ P) : ∀ c n, 2 ≤ n → de P a c n ≤ 2 * P := by
  intro c
  induction c with
  | zero => intro n _; show P ≤ 2 * P; omega
  | succ c ih =>
    intro n hn
    have h := ih (n + 1) (by omega)
    rw [de]
    have h1 : de P a c (n + 1) * a / P ≤ 2 * P := by
      have h2 : de P a c (n + 1) * a ≤ 2 * P * P := Nat.mul_le_mul h ha
      have := Nat.div_le_div_right (c := P) h2
      rw [Nat.mul_div_cancel _ hP] at this
      exact this
    have h3 : de P a c (n + 1) * a / P / n ≤ 2 * P / 2 := Nat.le_trans (Nat.div_le_div_left hn (by decide)) (Nat.div_le_div_right h1)
    omega
theorem de_bd1 {P a : Nat} (hP : 0 < P) (ha : a ≤ P) : ∀ c n, 1 ≤ n → de P a c n ≤ 3 * P := by
  intro c n hn
  cases c with
  | zero => show P ≤ 3 * P; omega
  | succ c =>
    have h := de_bd hP ha c (n + 1) (by omega)
    rw [de]
    have h1 : de P a c (n + 1) * a / P ≤ 2 * P := by
      have h2 : de P a c (n + 1) * a ≤ 2 * P * P := Nat.mul_le_mul h ha
      have := Nat.div_le_div_right (c := P) h2
      rw [Nat.mul_div_cancel _ hP] at this
      exact this
    have h3 : de P a c (n + 1) * a / P / n ≤ de P a c (n + 1) * a / P := Nat.div_le_self _ _
    omega

set_option maxHeartbeats 4000000 in
theorem rexp_l (s : Nat) (A : Option Addr) (n c : Nat) (us : List Nat) (w : World) (hA : Dig w A n c us) (ba : D.Bare us) (hn : n ≤ 300) (hs : s ≤ 700) (h1 : D.val us ≤ 2 ^ s) :
    Calls Tryz.prog 33 #[.slice A n c, .int .i64 (s : Int)] w fun e w' => ∃ K, 2 ^ s ≤ fac K ∧ DTells w (de (2 ^ s) (D.val us) K 1) 50 e w' := by
  obtain ⟨P, hP⟩ : ∃ P, 2 ^ s = P := ⟨_, rfl⟩
  obtain ⟨a, ha⟩ : ∃ a, D.val us = a := ⟨_, rfl⟩
  have hP0 : 0 < P := by rw [← hP]; exact Nat.two_pow_pos s
  rw [ha, hP] at h1
  rw [ha, hP]
  have HD : Hid (∀ c n, 1 ≤ n → de P a c n ≤ 3 * P) := de_bd1 hP0 h1
  have HP := Lib.hid hP
  have HP0 := Lib.hid hP0
  have Ha := Lib.hid ha
  have HA := Lib.hid hA
  have Hba := Lib.hid ba
  have Hle := Lib.hid h1
  have H1 := Lib.hid (num_any 1 (by decide) w)
  clear hA ba h1 ha hP hP0
  go_enter Tryz.func33, Tryz.ntmps33
  go_wp2_with fail
  refine H1.out.mono ?_
  rintro e w1 ⟨A1, m1, c1, es, rfl, hm1, hl1, hb1, hv1, hB1⟩
  have H2 := rshl_any A1 m1 c1 es s w1 hl1 hb1 (by omega) (by omega)
  rw [hv1, HP.out, Nat.one_mul] at H2
  replace H2 := Lib.hid H2
  have HS := Lib.hid hB1
  clear hl1 hb1 hv1 hB1 H1
  go_wp2_with fail
  refine H2.out.mono ?_
  rintro e w2 ⟨A2, m2, c2, ps, rfl, hm2, hl2, hb2, hv2, hB2⟩
  have hm45 : m2 ≤ 45 := dlen45 hl2 hb2 hv2 (by rw [HP.out]; omega) hs
  replace HS := Lib.hid (HS.out.trans (hB2.mono HS.out.size))
  have HO : Hid (Dig w2 A2 m2 c2 ps ∧ D.Bare ps ∧ D.val ps = P) := ⟨hl2, hb2, hv2⟩
  obtain ⟨SB, hSB⟩ : ∃ SB, s + 8 = SB := ⟨_, rfl⟩
  have eSB : (s : Int) + 8 = (SB : Int) := by omega
  clear hl2 hb2 hv2 hB2 H2 hm2
  go_wp2_with fail
  go_loopw [6, 7] (fun n1 b1 wr => ∃ k b : Nat, n1 = .int .i64 (k : Int) ∧ b1 = .int .i64 (b : Int) ∧ 1 ≤ k ∧ k ≤ b + 1 ∧ k ≤ SB + 1 ∧ b ≤ SB + 100 ∧ Hid (2 ^ b ≤ fac k) ∧ Hid (Below w2.heap.size w2 wr)) (fun _ b1 _ => SB - (intOf b1).toNat)
  case atStart => exact ⟨1, 0, rfl, rfl, by decide, by decide, by omega, by omega, (by show 2 ^ 0 ≤ fac 1; decide), Below.refl _ _⟩
  case round =>
    obtain ⟨w3, rfl⟩ : ∃ w3, w3 = wr := ⟨_, rfl⟩
    obtain ⟨k, b, rfl, rfl, hk1, hkb, hks, hbs, HF, HS3⟩ := hrel
    have hSB9 : SB < 1000 := by omega
    by_cases hlt : b < SB
    · have t1 : decide (b < SB) = true := decide_eq_true hlt
      have t2 : decide ((b : Int) < (SB : Int)) = true := decide_eq_true (by omega)
      obtain ⟨k1, hk⟩ : ∃ k1, k + 1 = k1 := ⟨_, rfl⟩
      have ek : (k : Int) + 1 = (k1 : Int) := by omega
      have hk9 : k1 < 2000 := by omega
      obtain ⟨l, hl⟩ : ∃ l, blen k1 = l := ⟨_, rfl⟩
      have hl1 : 2 ≤ l := by
        rw [← hl]
        refine Nat.le_of_not_lt fun h => ?_
        have : k1 < 2 ^ 1 := blen_le_iff.1 (by omega)
        omega
      have hl2 : l ≤ 11 := by rw [← hl]; exact blen_le_iff.2 (by omega)
      have HF2 : Hid (2 ^ (b + (l - 1)) ≤ fac k1) := by
        have := fac_bits HF.out
        rw [hk, hl] at this
        exact this
      have H3 := Lib.hid (num_any k1 (by omega) w3)
      have Hl := Lib.hid hl
      obtain ⟨bl, hbl⟩ : ∃ bl, b + l = bl := ⟨_, rfl⟩
      have ebl : (b : Int) + (l : Int) = (bl : Int) := by omega
      obtain ⟨b2, hb2⟩ : ∃ b2, b + (l - 1) = b2 := ⟨_, rfl⟩
      have eb2 : (bl : Int) - 1 = (b2 : Int) := by omega
      rw [hb2] at HF2
      have hb29 : b2 ≤ SB + 100 := by omega
      have hbb : b < b2 := by omega
      have hkk : k1 ≤ b2 + 1 := by omega
      have hks2 : k1 ≤ SB + 1 := by omega
      clear hl HF hSB hk hkb hks hbs hbl hb2
      go_wp2_with fail
      refine H3.out.mono ?_
      rintro e w4 ⟨A4, m4, c4, es, rfl, hm4, hl4, hb4, hv4, hB4⟩
      have H4 := rbits_any A4 m4 c4 es w4 hl4 hb4 (by omega)
      rw [hv4, Hl.out] at H4
      replace H4 := Lib.hid H4
      replace HS3 := Lib.hid (HS3.out.trans (hB4.mono HS3.out.size))
      clear hl4 hb4 hv4 hB4 H3
      go_wp2_with fail
      refine H4.out.mono ?_
      rintro e w' ⟨rfl, rfl⟩
      go_wp2
      go_roundw
      case rel => exact ⟨k1, b2, rfl, by first | rfl | (rw [eb2]), by omega, hkk, hks2, hb29, HF2, HS3⟩
      case measure => simp [intOf]; omega
    · have t1 : decide (b < SB) = false := decide_eq_false hlt
      have t2 : decide ((b : Int) < (SB : Int)) = false := decide_eq_false (by omega)
      have HK : Hid (2 ^ s ≤ fac k) := Nat.le_trans (Nat.pow_le_pow_right (by decide) (by omega)) HF.out
      have hk9 : k < 2000 := by omega
      clear HF hSB hkb hks hbs hlt
      go_wp2_with fail
      go_loopw [6, 8] (fun n1 sm wr => ∃ (j : Nat) (A6 : Option Addr) (m6 c6 : Nat) (ss : List Nat), j ≤ k ∧ n1 = .int .i64 (j : Int) ∧ sm = .slice A6 m6 c6 ∧ m6 ≤ 45 ∧ Hid (Dig wr A6 m6 c6 ss) ∧ Hid (D.Bare ss) ∧ Hid (D.val ss = de P a (k - j) (j + 1)) ∧ Hid (Below w2.heap.size w2 wr)) (fun n1 _ _ => (intOf n1).toNat)
      case atStart => exact ⟨k, A2, m2, c2, ps, Nat.le_refl _, rfl, rfl, hm45, HO.out.1.below HS3.out, HO.out.2.1, by show _ = _; rw [Nat.sub_self]; exact HO.out.2.2, HS3⟩
      case round =>
        obtain ⟨w4, rfl⟩ : ∃ w4, w4 = wr := ⟨_, rfl⟩
        obtain ⟨j, A6, m6, c6, ss, hj, rfl, rfl, hm6, HL6, HB6, HV6, HS6⟩ := hrel
        by_cases hj0 : j = 0
        · subst hj0
          rw [Nat.sub_zero, Nat.zero_add] at HV6
          have Hfin : Hid (∃ K, 2 ^ s ≤ fac K ∧ DTells w (de P a K 1) 50 (.returned (.slice A6 m6 c6)) w4) := ⟨k, HK.out, A6, m6, c6, ss, rfl, by omega, HL6.out, HB6.out, HV6.out, HS.out.trans (HS6.out.mono HS.out.size)⟩
          rw [HP.out] at Hfin
          clear HL6 HB6 HV6 HS6 HD HA Hba Ha Hle HO HS HS3
          go_wp2
          go_ret
          exact Hfin.out
        · obtain ⟨i, rfl⟩ : ∃ i, j = i + 1 := ⟨j - 1, by omega⟩
          obtain ⟨J, hJ⟩ : ∃ J, i + 1 = J := ⟨_, rfl⟩
          have b1 : decide ((1 : Int) ≤ (J : Int)) = true := decide_eq_true (by omega)
          have b2 : decide (1 ≤ J) = true := decide_eq_true (by omega)
          have e1 : (J : Int) - 1 = (i : Int) := by omega
          have hJ9 : J < 2000 := by omega
          have hJ1 : 1 ≤ J := by omega
          rw [hJ] at HV6 hj ⊢
          have HJ := Lib.hid hJ
          have H1 := rmul_any A6 m6 c6 ss A n c us w4 HL6.out (HA.out.below (HS.out.trans (HS6.out.mono HS.out.size))) (by omega) (by omega)
          rw [HV6.out, Ha.out] at H1
          replace H1 := Lib.hid H1
          clear hj0 hJ HL6 HB6
          go_wp2_with fail
          refine H1.out.mono ?_
          rintro e w5 ⟨A7, m7, c7, es, rfl, hm7, hl7, hb7, hv7, hB7⟩
          have hbd2 : de P a (k - J) (J + 1) * a / P ≤ 4 * P := div_small HP0.out (by have := HD.out (k - J) (J + 1) (by omega); omega) Hle.out
          have H2 := rshift_l _ s 45 A7 m7 c7 es w5 hl7 hb7 hv7 (by omega) (by omega) (s + 3) (by
            rw [HP.out]
            rw [Nat.pow_add, HP.out]
            have := HP0.out
            omega) (by omega)
          rw [HP.out] at H2
          replace H2 := Lib.hid H2
          replace HS6 := Lib.hid (HS6.out.trans (hB7.mono HS6.out.size))
          clear hl7 hb7 hv7 hB7 H1 hbd2 hm7
          go_wp2_with fail
          refine H2.out.mono ?_
          rintro e w6 ⟨A8, m8, c8, qs, rfl, hm8, hl8, hb8, hv8, hB8⟩
          have H3 := Lib.hid (num_any J (by omega) w6)
          replace HS6 := Lib.hid (HS6.out.trans (hB8.mono HS6.out.size))
          have HQ : Hid (Dig w6 A8 m8 c8 qs ∧ D.Bare qs ∧ D.val qs = de P a (k - J) (J + 1) * a / P) := ⟨hl8, hb8, hv8⟩
          clear hl8 hb8 hv8 hB8 H2
          go_wp2_with fail
          refine H3.out.mono ?_
          rintro e w7 ⟨A9, m9, c9, zs, rfl, hm9, hl9, hb9, hv9, hB9⟩
          have H4 := rdiv_any A8 m8 c8 qs A9 m9 c9 zs w7 (HQ.out.1.below hB9) hl9 HQ.out.2.1 hb9 (by omega) (by omega) (by rw [hv9]; omega)
          rw [HQ.out.2.2, hv9] at H4
          replace H4 := Lib.hid H4
          replace HS6 := Lib.hid (HS6.out.trans (hB9.mono HS6.out.size))
          clear hl9 hb9 hv9 hB9 H3 HQ
          go_wp2_with fail
          refine H4.out.mono ?_
          rintro e w8 ⟨Ac, mc, cc, cs, Ad, md, cd, ds, rfl, hmc, hmd, hlc, hld, hbc, hbd, hvc, hvd, hBc⟩
          replace HS6 := Lib.hid (HS6.out.trans (hBc.mono HS6.out.size))
          have H5 := radd_any A2 m2 c2 ps Ac mc cc cs w8 (HO.out.1.below HS6.out) hlc HO.out.2.1 hbc (by omega) (by omega)
          rw [HO.out.2.2, hvc] at H5
          replace H5 := Lib.hid H5
          clear hlc hld hbc hbd hvc hvd hBc H4 hmd
          go_wp2_with fail
          refine H5.out.mono ?_
          rintro e w9 ⟨Ag, mg, cg, gs, rfl, hmg, hlg, hbg, hvg, hBg⟩
          have hval : D.val gs = de P a (k - i) (i + 1) := by
            rw [hvg, HJ.out, show k - i = (k - J) + 1 by have := HJ.out; omega, de]
          have hg45 : mg ≤ 45 := dlen45 hlg hbg hval (by rw [HP.out]; have := HD.out (k - i) (i + 1) (by omega); omega) hs
          replace HS6 := Lib.hid (HS6.out.trans (hBg.mono HS6.out.size))
          have HLg := Lib.hid hlg
          have HBg := Lib.hid hbg
          have HVg := Lib.hid hval
          have hik : i ≤ k := by have := HJ.out; omega
          have hiJ : i < J := by have := HJ.out; omega
          clear hlg hbg hvg hBg H5 hval HV6 hmg
          go_wp2
          go_roundw
          case rel => exact ⟨i, Ag, mg, cg, gs, hik, by first | rfl | (rw [e1]), rfl, hg45, HLg, HBg, HVg, HS6⟩
          case measure => simp [intOf]; omega
end Go.Proofs.YtijhdlkfihjbiaaGreatDoor
/- What the laws of layer 12 ask of the package series; planimeterlaw12.alive, wide and holds. -/
namespace Go.Proofs.YtijhdlkfihjbiaaGreatDoor
open Go.RowKit

/-- Two lists and an error. -/
def TwoTold (w : World) (Q : Nat → Nat → Nat → Nat → Int → Prop) (e : Ending) (w' : World) : Prop :=
  ∃ A1 m1 c1 zs A2 m2 c2 us r, e = .returned (.tuple #[.slice A1 m1 c1, .slice A2 m2 c2, .int .i64 r]) ∧ m1 ≤ 250 ∧ m2 ≤ 250 ∧ Lim w' A1 m1 c1 zs ∧ Lim w' A2 m2 c2 us ∧ Below w.heap.size w w' ∧ Q m1 (val zs) m2 (val us) r
/-- Between: atanh of num divided by den, times 2^s. -/
def AtB (X Y s lo hi : Nat) : Prop := ∀ x : Rat, x * (Y : Rat) = (X : Rat) → (∃ c, (lo : Rat) ≤ ((2 ^ s : Nat) : Rat) * atS x c) ∧ ∀ c, ((2 ^ s : Nat) : Rat) * atS x c ≤ (hi : Rat)
/-- The contract of series.Ln2. -/
def Ln2B (s lo hi : Nat) : Prop := ∀ x : Rat, 3 * x = 1 → (∃ c, (lo : Rat) ≤ ((2 ^ s : Nat) : Rat) * (2 * atS x c)) ∧ ∀ c, ((2 ^ s : Nat) : Rat) * (2 * atS x c) ≤ (hi : Rat)
def Ln2Meets : Prop := ∀ (s : Int) (w : World), Tab w → -9223372036854775808 ≤ s → s ≤ 9223372036854775807 →
  Calls Tryz.prog 35 #[.int .i64 s] w (TwoTold w fun m1 lo m2 hi r =>
    ((8 ≤ s ∧ s ≤ 9000) ∧ r = 0 ∧ Ln2B s.toNat lo hi ∧ lo ≤ hi ∧ hi - lo ≤ 2 * s.toNat + 128) ∨ (¬ (8 ≤ s ∧ s ≤ 9000) ∧ r = 1 ∧ m1 = 0 ∧ m2 = 0))
/-- The contract of series.Exp. -/
def ExB (a b s lo hi : Nat) : Prop := (∀ x : Rat, ((2 ^ s : Nat) : Rat) * x = (a : Rat) → ∃ c, (lo : Rat) ≤ ((2 ^ s : Nat) : Rat) * eS x c) ∧ ∀ x : Rat, ((2 ^ s : Nat) : Rat) * x = (b : Rat) → ∀ c, ((2 ^ s : Nat) : Rat) * eS x c ≤ (hi : Rat)
end Go.Proofs.YtijhdlkfihjbiaaGreatDoor
/- What is between and what the document reckons: numbers alone. -/
namespace Go.Proofs.YtijhdlkfihjbiaaGreatDoor

theorem two_add (s t : Nat) : ((2 ^ (s + t) : Nat) : Rat) = ((2 ^ t : Nat) : Rat) * ((2 ^ s : Nat) : Rat) := by
  rw [Nat.pow_add, Nat.mul_comm]; exact_mod_cast rfl
theorem frac_of {X Y : Nat} (hY : Y ≠ 0) : ∃ x : Rat, x * (Y : Rat) = (X : Rat) := by
  have h0 := rnat_pos (Nat.pos_of_ne_zero hY)
  refine ⟨(X : Rat) / (Y : Rat), ?_⟩
  exact Rat.div_mul_cancel (Rat.ne_of_gt h0)
theorem frac_bd {X Y : Nat} {x : Rat} (hY : Y ≠ 0) (h3 : 3 * X ≤ Y) (hx : x * (Y : Rat) = (X : Rat)) : 0 ≤ x ∧ 3 * x ≤ 1 := by
  have d0 := rnat_pos (Nat.pos_of_ne_zero hY)
  have n0 := rnat_nonneg X
  have h3' : 3 * (X : Rat) ≤ Y := by exact_mod_cast h3
  exact ⟨rcancel (c := (Y : Rat)) (by grind) d0, rcancel (c := (Y : Rat)) (by grind) d0⟩
theorem cast_le {a b : Nat} (h : (a : Rat) ≤ (b : Rat)) : a ≤ b := by exact_mod_cast h

theorem ex_frac (a s : Nat) (h : a ≤ 2 ^ s) : ∃ x : Rat, ((2 ^ s : Nat) : Rat) * x = (a : Rat) ∧ 0 ≤ x ∧ x ≤ 1 := by
  have p0 := rnat_pos (Nat.two_pow_pos s)
  obtain ⟨x, hx⟩ := frac_of (X := a) (Y := 2 ^ s) (Nat.pos_iff_ne_zero.1 (Nat.two_pow_pos s))
  have a0 := rnat_nonneg a
  have a1 : (a : Rat) ≤ ((2 ^ s : Nat) : Rat) := by exact_mod_cast h
  refine ⟨x, by grind, rcancel (c := ((2 ^ s : Nat) : Rat)) (by grind) p0, rcancel (c := ((2 ^ s : Nat) : Rat)) (by grind) p0⟩
end Go.Proofs.YtijhdlkfihjbiaaGreatDoor
/- How atanh and exp grow: differences of so many terms, held by fractions. -/
namespace Go.Proofs.YtijhdlkfihjbiaaGreatDoor

theorem hh_sum (y : Rat) : ∀ (c n : Nat), hh y c n = sm (fun k => y ^ k * (1 / ((2 * (n + k) + 1 : Nat) : Rat))) c := by
  intro c
  induction c with
  | zero => intro n; rfl
  | succ c ih =>
    intro n
    rw [sm_head]
    simp only [hh]
    rw [ih (n + 1), ← sm_mul, Rat.pow_zero, Nat.add_zero]
    have : sm (fun k => y * (y ^ k * (1 / ((2 * (n + 1 + k) + 1 : Nat) : Rat)))) c = sm (fun k => y ^ (k + 1) * (1 / ((2 * (n + (k + 1)) + 1 : Nat) : Rat))) c := by
      refine sm_congr _ (fun k _ => ?_)
      rw [show n + 1 + k = n + (k + 1) by omega, Rat.pow_succ]
      grind
    rw [this]
    grind
/-- atanh's terms, one by one. -/
theorem atS_sum (x : Rat) (c : Nat) : atS x c = sm (fun k => x * (x * x) ^ k * (1 / ((2 * k + 1 : Nat) : Rat))) c := by
  unfold atS
  rw [hh_sum, ← sm_mul]
  refine sm_congr _ (fun k _ => ?_)
  rw [Nat.zero_add]
  grind
theorem atS_succ (x : Rat) (c : Nat) : atS x (c + 1) = atS x c + x * (x * x) ^ c * (1 / ((2 * c + 1 : Nat) : Rat)) := by
  rw [atS_sum, atS_sum]
  rfl
/-- The geometric sum. -/
def gS (y : Rat) (c : Nat) : Rat := sm (fun k => y ^ k) c
theorem gS_mul (y : Rat) (c : Nat) : (1 - y) * gS y c = 1 - y ^ c := by
  induction c with
  | zero => unfold gS; simp only [sm]; rw [Rat.pow_zero]; grind
  | succ c ih =>
    have e : gS y (c + 1) = gS y c + y ^ c := rfl
    rw [e, Rat.pow_succ]
    grind
/-- How odd powers grow. -/
theorem odd_diff {x z : Rat} (h0 : 0 ≤ x) (h : x ≤ z) : ∀ k : Nat, ((2 * k + 1 : Nat) : Rat) * ((z - x) * (x * x) ^ k) ≤ z * (z * z) ^ k - x * (x * x) ^ k ∧ z * (z * z) ^ k - x * (x * x) ^ k ≤ ((2 * k + 1 : Nat) : Rat) * ((z - x) * (z * z) ^ k) ∧ (x * x) ^ k ≤ (z * z) ^ k := by
  intro k
  induction k with
  | zero =>
    have e : ((2 * 0 + 1 : Nat) : Rat) = 1 := rfl
    rw [e, Rat.pow_zero, Rat.pow_zero]
    refine ⟨?_, ?_, ?_⟩
    · grind
    · grind
    · exact Rat.le_refl
  | succ k ih =>
    obtain ⟨i1, i2, i3⟩ := ih
    have e : ((2 * (k + 1) + 1 : Nat) : Rat) = ((2 * k + 1 : Nat) : Rat) + 2 := by
      have : (2 * (k + 1) + 1 : Nat) = (2 * k + 1) + 2 := by omega
      exact_mod_cast this
    have z0 : 0 ≤ z := by grind
    have px := rpow_nonneg (show 0 ≤ x * x by have := rmul_le h0 h0; grind) k
    have pz := rpow_nonneg (show 0 ≤ z * z by have := rmul_le z0 z0; grind) k
    have m0 := rnat_nonneg (2 * k + 1)
    have xx := rmul_le h0 h0
    have zz := rmul_le z0 z0
    have d0 : 0 ≤ z - x := by grind
    have xz := rmul_le h h0
    have zx := rmul_le h z0
    rw [e, Rat.pow_succ, Rat.pow_succ]
    generalize (x * x) ^ k = X at *
    generalize (z * z) ^ k = Z at *
    generalize ((2 * k + 1 : Nat) : Rat) = m at *
    have sq : x * x ≤ z * z := by grind
    refine ⟨?_, ?_, ?_⟩
    · -- z Z z z - x X x x = (z Z - x X) x x + z Z (z z - x x)
      have a := rmul_le i1 (show 0 ≤ x * x by grind)
      have b1 := rmul_le i3 (show 0 ≤ z * (z * z - x * x) by have := rmul_le (show 0 ≤ z * z - x * x by grind) z0; grind)
      have b2 := rmul_le (show (z - x) * (2 * (x * x)) ≤ z * (z * z - x * x) by
        have t1 := rmul_le (show 2 * (x * x) ≤ z * (z + x) by grind) d0
        grind) px
      grind
    · have a := rmul_le i2 (show 0 ≤ z * z by grind)
      have b1 := rmul_le i3 (show 0 ≤ x * (z * z - x * x) by have := rmul_le (show 0 ≤ z * z - x * x by grind) h0; grind)
      have b2 := rmul_le (show x * (z * z - x * x) ≤ (z - x) * (2 * (z * z)) by
        have t1 := rmul_le (show x * (z + x) ≤ 2 * (z * z) by grind) d0
        grind) pz
      grind
    · have a := rmul_le i3 (show 0 ≤ x * x by grind)
      have b := rmul_le sq pz
      grind
/-- How atanh grows. -/
theorem atS_diff {x z : Rat} (h0 : 0 ≤ x) (h : x ≤ z) (c : Nat) : (z - x) * gS (x * x) c ≤ atS z c - atS x c ∧ atS z c - atS x c ≤ (z - x) * gS (z * z) c := by
  induction c with
  | zero =>
    have e1 : atS z 0 = 0 := by rw [atS_sum]; rfl
    have e2 : atS x 0 = 0 := by rw [atS_sum]; rfl
    have e3 : ∀ y, gS y 0 = 0 := fun _ => rfl
    rw [e1, e2, e3, e3]
    constructor <;> grind
  | succ c ih =>
    obtain ⟨i1, i2⟩ := ih
    obtain ⟨j1, j2, _⟩ := odd_diff h0 h c
    have e : ∀ y, gS y (c + 1) = gS y c + y ^ c := fun _ => rfl
    rw [atS_succ, atS_succ, e, e]
    obtain ⟨i, hi, k1, k2, k3⟩ := inv_nat (n := 2 * c + 1) (by omega)
    rw [hi]
    have a1 := rmul_le j1 k2
    have a2 := rmul_le j2 k2
    generalize (x * x) ^ c = X at *
    generalize (z * z) ^ c = Z at *
    generalize ((2 * c + 1 : Nat) : Rat) = m at *
    have s1 : i * (m * ((z - x) * X)) = (z - x) * X := by rw [← Rat.mul_assoc, Rat.mul_comm i m, k1, Rat.one_mul]
    have s2 : i * (m * ((z - x) * Z)) = (z - x) * Z := by rw [← Rat.mul_assoc, Rat.mul_comm i m, k1, Rat.one_mul]
    rw [s1] at a1
    rw [s2] at a2
    generalize gS (x * x) c = g1 at *
    generalize gS (z * z) c = g2 at *
    generalize atS z c = p1 at *
    generalize atS x c = p2 at *
    clear e hi k1 j1 j2 s1 s2
    constructor
    · grind
    · grind
/-- exp near 0. -/
theorem eS_near {d : Rat} (h0 : 0 ≤ d) (h1 : d ≤ 1) (c : Nat) : 1 + d ≤ eS d (c + 1) ∧ eS d c ≤ 1 + d + d * d := by
  have t0 : ∀ c n, 0 < n → ge_ d c n ≤ 3 := fun c n hn => by
    obtain ⟨a, b⟩ := ge_bd h0 h1 c n hn
    have m1 : (1 : Rat) ≤ (n : Rat) := by exact_mod_cast hn
    generalize ge_ d c n = G at *
    generalize (n : Rat) = m at *
    refine rcancel (c := m) ?_ (by grind)
    grind
  constructor
  · unfold eS
    simp only [ge_]
    have a := (ge_bd h0 h1 c 2 (by decide)).1
    have e : (1 : Rat) / ((1 : Nat) : Rat) = 1 := by
      have : ((1 : Nat) : Rat) = 1 := rfl
      rw [this]; grind
    rw [e]
    have b := rmul_le a h0
    grind
  · cases c with
    | zero =>
      rw [eS_zero]
      have := rmul_le h0 h0
      grind
    | succ c =>
      unfold eS
      simp only [ge_]
      have e : (1 : Rat) / ((1 : Nat) : Rat) = 1 := by
        have : ((1 : Nat) : Rat) = 1 := rfl
        rw [this]; grind
      rw [e]
      have g : ge_ d c 2 ≤ 1 + d := by
        cases c with
        | zero => simp only [ge_]; grind
        | succ c =>
          simp only [ge_]
          obtain ⟨a, b⟩ := ge_bd h0 h1 c 3 (by decide)
          have e3 : ((3 : Nat) : Rat) = 3 := rfl
          have e2 : ((2 : Nat) : Rat) = 2 := rfl
          rw [e3] at b
          have g2 : ge_ d c 3 ≤ 2 := by grind
          rw [e2]
          have := rmul_le g2 h0
          grind
      have b := rmul_le g h0
      grind
end Go.Proofs.YtijhdlkfihjbiaaGreatDoor
/- Sums term by term, each step cut down or up: between what they are. For whatever program reckons forward. -/
namespace Go.Proofs.YtijhdlkfihjbiaaGreatDoor

/-- So many terms of whole numbers. -/
def sn (f : Nat → Nat) : Nat → Nat
  | 0 => 0
  | c + 1 => sn f c + f c
theorem sn_cast (f : Nat → Nat) (c : Nat) : ((sn f (c + 1) : Nat) : Rat) = (sn f c : Rat) + (f c : Rat) := by
  rw [sn]; exact_mod_cast rfl
/-- What follows of atanh, behind c terms: an eighth more than the next one at most. -/
theorem hh_next {y : Rat} (h0 : 0 ≤ y) (h1 : 9 * y ≤ 1) : ∀ d n : Nat, 8 * (((2 * n + 1 : Nat) : Rat) * hh y d n) ≤ 9 := by
  intro d
  induction d with
  | zero =>
    intro n
    simp only [hh]
    grind
  | succ d ih =>
    intro n
    have h := ih (n + 1)
    have b := (hh_bd h0 h1 d (n + 1)).1
    have e : hh y (d + 1) n = 1 / ((2 * n + 1 : Nat) : Rat) + y * hh y d (n + 1) := rfl
    have n0 := rnat_pos (show 0 < 2 * n + 1 by omega)
    have hle : ((2 * n + 1 : Nat) : Rat) ≤ ((2 * (n + 1) + 1 : Nat) : Rat) := by exact_mod_cast (show 2 * n + 1 ≤ 2 * (n + 1) + 1 by omega)
    have inv : ((2 * n + 1 : Nat) : Rat) * (1 / ((2 * n + 1 : Nat) : Rat)) = 1 := by
      rw [Rat.mul_comm]; exact Rat.div_mul_cancel (Rat.ne_of_gt n0)
    rw [e]
    generalize ((2 * n + 1 : Nat) : Rat) = N at *
    generalize ((2 * (n + 1) + 1 : Nat) : Rat) = M at *
    generalize hh y d (n + 1) = H at *
    generalize 1 / N = i at *
    have yH : 0 ≤ y * H := by
      have := rmul_le b h0
      grind
    have m1 := rmul_le hle yH
    have m2 := rmul_le h h0
    have e1 : N * (i + y * H) = N * i + y * H * N := by grind
    have e2 : y * (8 * (M * H)) = 8 * (y * H * M) := by grind
    rw [e1, inv]
    rw [e2] at m2
    grind
theorem at_rest {x : Rat} (h0 : 0 ≤ x) (h1 : 3 * x ≤ 1) (c d : Nat) : 8 * (((2 * c + 1 : Nat) : Rat) * atS x (c + d)) ≤ 8 * (((2 * c + 1 : Nat) : Rat) * atS x c) + 9 * (x * (x * x) ^ c) := by
  obtain ⟨y0, y1⟩ := third h0 h1
  have h := hh_next y0 y1 d c
  have m := hh_more (y := x * x) c d 0
  rw [Nat.zero_add] at m
  have p0 := rpow_nonneg y0 c
  have xp : 0 ≤ x * (x * x) ^ c := by
    have := rmul_le p0 h0
    grind
  have t := rmul_le h xp
  unfold atS
  rw [m]
  generalize ((2 * c + 1 : Nat) : Rat) = N at *
  generalize (x * x) ^ c = Q at *
  generalize hh (x * x) c 0 = H at *
  generalize hh (x * x) d c = G at *
  have e : x * Q * (8 * (N * G)) = 8 * (N * (x * (Q * G))) := by grind
  rw [e] at t
  grind

/-- exp, each step cut down. -/
theorem fwd_ex_lo {P a : Nat} {x : Rat} (hP : 0 < P) (hx : 0 ≤ x) {t : Nat → Nat} (h0 : (t 0 : Rat) ≤ P) (ha : (a : Rat) ≤ P * x) (ht : ∀ k, t (k + 1) * (P * (k + 1)) ≤ t k * a) : ∀ c, (sn t (c + 1) : Rat) ≤ P * eS x c := by
  have P0 := rnat_pos hP
  have hk : ∀ k, (t k : Rat) ≤ P * tk x k := by
    intro k
    induction k with
    | zero => rw [tk_zero]; grind
    | succ k ih =>
      have h' : ((t (k + 1) : Nat) : Rat) * ((P : Rat) * ((k + 1 : Nat) : Rat)) ≤ (t k : Rat) * (a : Rat) := by exact_mod_cast ht k
      have e := tk_succ x k
      have n0 := rnat_pos (show 0 < k + 1 by omega)
      have t0 := rnat_nonneg (t k)
      generalize ((k + 1 : Nat) : Rat) = N at *
      generalize tk x (k + 1) = U at *
      generalize tk x k = V at *
      have m1 := rmul_le ha t0
      have Px : 0 ≤ (P : Rat) * x := by
        have := rmul_le hx (Rat.le_of_lt P0)
        grind
      have m2 := rmul_le ih Px
      have NP : 0 < N * (P : Rat) := Rat.mul_pos n0 P0
      refine rcancel (c := N * (P : Rat)) ?_ NP
      have e1 : N * (P : Rat) * (P * U) = P * P * (N * U) := by grind
      rw [e1, e]
      grind
  intro c
  induction c with
  | zero =>
    rw [sn_cast, eS_zero]
    have e : ((sn t 0 : Nat) : Rat) = 0 := by exact_mod_cast rfl
    rw [e]
    grind
  | succ c ih =>
    rw [sn_cast, eS_succ]
    have := hk (c + 1)
    grind
end Go.Proofs.YtijhdlkfihjbiaaGreatDoor
/- The sums as the landed package reckons them, as sequences: powers of a fraction, each cut down or up. Between what they are, and how far apart: numbers alone. -/
namespace Go.Proofs.YtijhdlkfihjbiaaGreatDoor

/-- Divided, cut down or up. -/
def ov (g : Bool) (a b : Nat) : Nat := if g then upq a b else a / b
theorem ov_low (a b : Nat) : ov false a b * b ≤ a := Nat.div_mul_le_self a b
theorem ov_up {b : Nat} (hb : 0 < b) (a : Nat) : a ≤ ov true a b * b := by
  show a ≤ upq a b * b
  unfold upq
  have h := Nat.div_add_mod a b
  have h2 := Nat.mod_lt a hb
  split
  · rename_i h0
    rw [h0] at h
    rw [Nat.add_zero, Nat.mul_comm]
    omega
  · rw [Nat.add_mul, Nat.mul_comm (a / b)]
    omega
theorem ov_le (g : Bool) (a b : Nat) : ov g a b ≤ a / b + 1 := by
  cases g
  · exact Nat.le_succ _
  · show upq a b ≤ _
    unfold upq
    split <;> omega
/-- Cut up of what is at most so many times the divisor. -/
theorem ov_most {b : Nat} (hb : 0 < b) (g : Bool) {a q : Nat} (h : a ≤ q * b) : ov g a b ≤ q := by
  cases g
  · show a / b ≤ q
    exact Nat.div_le_of_le_mul (by rw [Nat.mul_comm]; exact h)
  · show upq a b ≤ q
    unfold upq
    have h1 := Nat.div_add_mod a b
    have h2 := Nat.mod_lt a hb
    split
    · have : a / b ≤ q := Nat.div_le_of_le_mul (by rw [Nat.mul_comm]; exact h)
      omega
    · rename_i h0
      have : a / b < q := by
        rw [Nat.div_lt_iff_lt_mul hb]
        rcases Nat.lt_or_ge a (q * b) with h3 | h3
        · exact h3
        · exfalso
          have h4 : a = q * b := Nat.le_antisymm h h3
          rw [h4, Nat.mul_mod_left] at h0
          exact h0 rfl
      omega
theorem add_div_le {a b d : Nat} (hd : 0 < d) (h : b ≤ d) : (a + b) / d ≤ a / d + 1 := by
  have h1 : (a + b) / d ≤ (a + d) / d := Nat.div_le_div_right (by omega)
  rw [Nat.add_div_right a hd] at h1
  exact h1

/-- A power after the other. -/
def pk (g : Bool) (U D p : Nat) : Nat → Nat
  | 0 => p
  | k + 1 => ov g (pk g U D p k * U) D
/-- .. divided by 1, 3, 5 .. -/
def tk1 (g : Bool) (U D p : Nat) (k : Nat) : Nat := ov g (pk g U D p k) (2 * k + 1)

theorem pk_lo {U D p : Nat} {y q : Rat} (hD : 0 < D) (hy : 0 ≤ y) (e : y * (D : Rat) = (U : Rat)) (h0 : (p : Rat) ≤ q) : ∀ k, (pk false U D p k : Rat) ≤ q * y ^ k := by
  intro k
  have d0 := rnat_pos hD
  induction k with
  | zero =>
    rw [Rat.pow_zero]
    show (p : Rat) ≤ _
    grind
  | succ k ih =>
    have h := ov_low (pk false U D p k * U) D
    have h' : ((pk false U D p (k + 1) : Nat) : Rat) * (D : Rat) ≤ (pk false U D p k : Rat) * (U : Rat) := by exact_mod_cast h
    have e2 : y ^ (k + 1) = y ^ k * y := Rat.pow_succ _ _
    rw [e2]
    generalize y ^ k = Q at *
    generalize (pk false U D p (k + 1) : Rat) = A at *
    generalize (pk false U D p k : Rat) = B at *
    have m := rmul_le ih hy
    have m2 := rmul_le m (Rat.le_of_lt d0)
    rw [← e] at h'
    refine rcancel (c := (D : Rat)) ?_ d0
    grind
theorem pk_hi {U D p : Nat} {y q : Rat} (hD : 0 < D) (hy : 0 ≤ y) (e : y * (D : Rat) = (U : Rat)) (h0 : q ≤ (p : Rat)) : ∀ k, q * y ^ k ≤ (pk true U D p k : Rat) := by
  intro k
  have d0 := rnat_pos hD
  induction k with
  | zero =>
    rw [Rat.pow_zero]
    show _ ≤ (p : Rat)
    grind
  | succ k ih =>
    have h := ov_up hD (pk true U D p k * U)
    have h' : (pk true U D p k : Rat) * (U : Rat) ≤ ((pk true U D p (k + 1) : Nat) : Rat) * (D : Rat) := by exact_mod_cast h
    have e2 : y ^ (k + 1) = y ^ k * y := Rat.pow_succ _ _
    rw [e2]
    generalize y ^ k = Q at *
    generalize (pk true U D p (k + 1) : Rat) = A at *
    generalize (pk true U D p k : Rat) = B at *
    have m := rmul_le ih hy
    have m2 := rmul_le m (Rat.le_of_lt d0)
    rw [← e] at h'
    refine rcancel (c := (D : Rat)) ?_ d0
    grind
theorem tk_lo {U D p : Nat} {x P : Rat} (hD : 0 < D) (hx : 0 ≤ x) (e : x * x * (D : Rat) = (U : Rat)) (h0 : (p : Rat) ≤ P * x) : ∀ c, (sn (tk1 false U D p) c : Rat) ≤ P * atS x c := by
  have y0 : 0 ≤ x * x := by have := rmul_le hx hx; grind
  have hk := pk_lo hD y0 e h0
  intro c
  induction c with
  | zero =>
    have e0 : ((sn (tk1 false U D p) 0 : Nat) : Rat) = 0 := by exact_mod_cast rfl
    rw [e0]
    unfold atS
    simp only [hh]
    grind
  | succ c ih =>
    rw [sn_cast, atS_succ]
    have h := ov_low (pk false U D p c) (2 * c + 1)
    have h' : ((tk1 false U D p c : Nat) : Rat) * ((2 * c + 1 : Nat) : Rat) ≤ (pk false U D p c : Rat) := by exact_mod_cast h
    have n0 := rnat_pos (show 0 < 2 * c + 1 by omega)
    have inv : ((2 * c + 1 : Nat) : Rat) * (1 / ((2 * c + 1 : Nat) : Rat)) = 1 := by
      rw [Rat.mul_comm]; exact Rat.div_mul_cancel (Rat.ne_of_gt n0)
    have hpk := hk c
    generalize ((2 * c + 1 : Nat) : Rat) = N at *
    generalize 1 / N = i at *
    generalize (pk false U D p c : Rat) = A at *
    generalize (tk1 false U D p c : Rat) = T at *
    generalize (x * x) ^ c = Q at *
    have key : T ≤ P * (x * Q * i) := by
      refine rcancel (c := N) ?_ n0
      have e2 : N * (P * (x * Q * i)) = P * x * Q * (N * i) := by grind
      rw [e2, inv]
      grind
    grind
theorem tk_hi {U D p : Nat} {x P : Rat} (hD : 0 < D) (hx : 0 ≤ x) (e : x * x * (D : Rat) = (U : Rat)) (h0 : P * x ≤ (p : Rat)) : ∀ c, P * atS x c ≤ (sn (tk1 true U D p) c : Rat) := by
  have y0 : 0 ≤ x * x := by have := rmul_le hx hx; grind
  have hk := pk_hi hD y0 e h0
  intro c
  induction c with
  | zero =>
    have e0 : ((sn (tk1 true U D p) 0 : Nat) : Rat) = 0 := by exact_mod_cast rfl
    rw [e0]
    unfold atS
    simp only [hh]
    grind
  | succ c ih =>
    rw [sn_cast, atS_succ]
    have h := ov_up (show 0 < 2 * c + 1 by omega) (pk true U D p c)
    have h' : (pk true U D p c : Rat) ≤ ((tk1 true U D p c : Nat) : Rat) * ((2 * c + 1 : Nat) : Rat) := by exact_mod_cast h
    have n0 := rnat_pos (show 0 < 2 * c + 1 by omega)
    have inv : ((2 * c + 1 : Nat) : Rat) * (1 / ((2 * c + 1 : Nat) : Rat)) = 1 := by
      rw [Rat.mul_comm]; exact Rat.div_mul_cancel (Rat.ne_of_gt n0)
    have hpk := hk c
    generalize ((2 * c + 1 : Nat) : Rat) = N at *
    generalize 1 / N = i at *
    generalize (pk true U D p c : Rat) = A at *
    generalize (tk1 true U D p c : Rat) = T at *
    generalize (x * x) ^ c = Q at *
    have key : P * (x * Q * i) ≤ T := by
      refine rcancel (c := N) ?_ n0
      have e2 : N * (P * (x * Q * i)) = P * x * Q * (N * i) := by grind
      rw [e2, inv]
      grind
    grind
/-- .. and twice the last power for what is left out. -/
theorem tk_all {U D p c : Nat} {x P : Rat} (hD : 0 < D) (hx : 0 ≤ x) (h3 : 3 * x ≤ 1) (hP : 0 ≤ P) (e : x * x * (D : Rat) = (U : Rat)) (h0 : P * x ≤ (p : Rat)) : ∀ M, P * atS x M ≤ ((sn (tk1 true U D p) c + (pk true U D p c + pk true U D p c) : Nat) : Rat) := by
  intro M
  have y0 : 0 ≤ x * x := by have := rmul_le hx hx; grind
  have s := tk_hi hD hx e h0 c
  have hk := pk_hi hD y0 e h0 c
  have e1 : ((sn (tk1 true U D p) c + (pk true U D p c + pk true U D p c) : Nat) : Rat) = (sn (tk1 true U D p) c : Rat) + ((pk true U D p c : Rat) + (pk true U D p c : Rat)) := by exact_mod_cast rfl
  rw [e1]
  have r0 := rnat_nonneg (pk true U D p c)
  rcases Nat.le_total M c with h | h
  · obtain ⟨k, rfl⟩ : ∃ k, c = M + k := ⟨c - M, by omega⟩
    have m := rmul_le (atS_mono hx h3 M k) hP
    grind
  · obtain ⟨d, rfl⟩ : ∃ d, M = c + d := ⟨M - c, by omega⟩
    have t1 := at_rest hx h3 c d
    have q0 := rpow_nonneg y0 c
    have n1 : (1 : Rat) ≤ ((2 * c + 1 : Nat) : Rat) := by exact_mod_cast (show 1 ≤ 2 * c + 1 by omega)
    generalize ((2 * c + 1 : Nat) : Rat) = N at *
    generalize atS x (c + d) = A at *
    generalize atS x c = B at *
    generalize (x * x) ^ c = Q at *
    have z0 : 0 ≤ x * Q := by have := rmul_le q0 hx; grind
    have key : 8 * A ≤ 8 * B + 9 * (x * Q) := by
      refine rcancel (c := N) ?_ (by grind)
      have m := rmul_le n1 z0
      grind
    have t2 := rmul_le key hP
    have hk2 : P * (x * Q) ≤ (pk true U D p c : Rat) := by grind
    grind

/-- Each is at most a ninth of the one ahead, and one more. -/
theorem pk_step (g : Bool) {U D p : Nat} (hD : 0 < D) (h9 : 9 * U ≤ D) (k : Nat) : pk g U D p (k + 1) ≤ pk g U D p k / 9 + 1 := by
  refine Nat.le_trans (ov_le g _ _) (Nat.succ_le_succ ?_)
  refine (Nat.le_div_iff_mul_le (by decide)).2 ?_
  have h1 := Nat.div_mul_le_self (pk g U D p k * U) D
  have h2 : pk g U D p k * U * 9 ≤ pk g U D p k * D := by
    rw [Nat.mul_assoc]
    exact Nat.mul_le_mul_left _ (by omega)
  generalize pk g U D p k = A at *
  generalize A * U / D = B at *
  refine Nat.le_of_mul_le_mul_right (c := D) ?_ hD
  calc B * 9 * D = B * D * 9 := by rw [Nat.mul_assoc, Nat.mul_comm 9 D, ← Nat.mul_assoc]
    _ ≤ A * U * 9 := Nat.mul_le_mul_right _ h1
    _ ≤ A * D := h2
/-- So there are few. -/
theorem less_bits {v q w k : Nat} (h : v ≤ q / 9 + 1) (hq : 1 < q) (hc : k + blen (q - 1) ≤ w) : k + 1 + blen (v - 1) ≤ w := by
  have h1 : v - 1 ≤ (q - 1) / 2 := by omega
  have h2 := blen_mono h1
  have h3 := blen_half (x := q - 1) (by omega)
  omega
theorem ov_mono (g : Bool) {a b d : Nat} (hd : 0 < d) (h : a ≤ b) : ov g a d ≤ ov true b d := by
  refine ov_most hd g ?_
  exact Nat.le_trans h (ov_up hd b)
theorem pk_ord {U D p q : Nat} (hD : 0 < D) (h : p ≤ q) : ∀ k, pk false U D p k ≤ pk true U D q k
  | 0 => h
  | k + 1 => ov_mono false hD (Nat.mul_le_mul_right _ (pk_ord hD h k))
theorem pk_gap {U D p q : Nat} (hD : 0 < D) (h9 : 9 * U ≤ D) (h : q ≤ p + 2) : ∀ k, pk true U D q k ≤ pk false U D p k + 2
  | 0 => h
  | k + 1 => by
    have ih := pk_gap hD h9 h k
    refine Nat.le_trans (ov_le true _ _) ?_
    have h1 : pk true U D q k * U ≤ pk false U D p k * U + 2 * U := by
      rw [← Nat.add_mul]; exact Nat.mul_le_mul_right _ ih
    have h2 := Nat.le_trans (Nat.div_le_div_right (c := D) h1) (add_div_le hD (show 2 * U ≤ D by omega))
    show _ ≤ pk false U D p k * U / D + 2
    omega
theorem tk_gap {p q : Nat} (h : q ≤ p + 2) (k : Nat) : ov true q (2 * k + 1) ≤ ov false p (2 * k + 1) + 3 := by
  refine Nat.le_trans (ov_le true _ _) ?_
  show _ ≤ p / (2 * k + 1) + 3
  rcases Nat.eq_zero_or_pos k with h0 | h0
  · subst h0
    rw [show 2 * 0 + 1 = 1 from rfl, Nat.div_one, Nat.div_one]
    omega
  · have h1 := Nat.le_trans (Nat.div_le_div_right (c := 2 * k + 1) h) (add_div_le (show 0 < 2 * k + 1 by omega) (show 2 ≤ 2 * k + 1 by omega))
    omega
/-- Both sums, each ahead of its first power that is at most 1. -/
theorem sn_gap {U D p q c d : Nat} (hD : 0 < D) (h9 : 9 * U ≤ D) (hpq : p ≤ q) (hqp : q ≤ p + 2) (hc : pk false U D p c ≤ 1) (hc2 : ∀ j, j < c → 1 < pk false U D p j) (hd : pk true U D q d ≤ 1) :
    c ≤ d ∧ sn (tk1 true U D q) d ≤ sn (tk1 false U D p) c + 3 * d := by
  have hcd : c ≤ d := Nat.le_of_not_lt fun h => by
    have h1 := hc2 d h
    have h2 := pk_ord (U := U) hD hpq d
    omega
  have low : ∀ j, pk false U D p (c + j) ≤ 1 := by
    intro j
    induction j with
    | zero => exact hc
    | succ j ih =>
      have h1 : pk false U D p (c + j + 1) * D ≤ pk false U D p (c + j) * U := ov_low _ _
      have h2 : pk false U D p (c + j) * U ≤ 1 * D := Nat.mul_le_mul ih (by omega)
      exact Nat.le_of_mul_le_mul_right (Nat.le_trans h1 h2) hD
  have first : ∀ j, sn (tk1 true U D q) j ≤ sn (tk1 false U D p) j + 3 * j := by
    intro j
    induction j with
    | zero => exact Nat.le_refl _
    | succ j ih =>
      have := tk_gap (pk_gap (U := U) hD h9 hqp j) j
      show sn (tk1 true U D q) j + tk1 true U D q j ≤ sn (tk1 false U D p) j + tk1 false U D p j + 3 * (j + 1)
      unfold tk1 at *
      omega
  have rest : ∀ j, sn (tk1 true U D q) (c + j) ≤ sn (tk1 false U D p) c + 3 * (c + j) := by
    intro j
    induction j with
    | zero => exact first c
    | succ j ih =>
      have h1 := pk_gap (U := U) hD h9 hqp (c + j)
      have h2 := low j
      have h3 : tk1 true U D q (c + j) ≤ 3 := ov_most (by omega) true (by
        have : 3 * 1 ≤ 3 * (2 * (c + j) + 1) := Nat.mul_le_mul_left _ (by omega)
        omega)
      show sn (tk1 true U D q) (c + j) + tk1 true U D q (c + j) ≤ _
      omega
  refine ⟨hcd, ?_⟩
  have := rest (d - c)
  rw [show c + (d - c) = d by omega] at this
  exact this
end Go.Proofs.YtijhdlkfihjbiaaGreatDoor
/- exp of twice atanh: never above (1 + r)/(1 - r), however many terms. -/
namespace Go.Proofs.YtijhdlkfihjbiaaGreatDoor

/-- A great enough whole number. -/
theorem rat_arch (a : Rat) : ∃ n : Nat, a ≤ (n : Rat) := by
  refine ⟨a.ceil.toNat, ?_⟩
  have h1 := Rat.le_ceil (x := a)
  have h2 : (a.ceil : Rat) ≤ ((a.ceil.toNat : Nat) : Rat) := by
    have h3 : a.ceil ≤ ((a.ceil.toNat : Nat) : Int) := Int.self_le_toNat _
    exact_mod_cast h3
  exact Rat.le_trans h1 h2
theorem pow_small {u : Rat} (h0 : 0 ≤ u) : ∀ n : Nat, (1 + u) ^ n * (1 - n * u) ≤ 1 ∧ 1 ≤ (1 + u) ^ n := by
  intro n
  induction n with
  | zero =>
    rw [Rat.pow_zero]
    have : ((0 : Nat) : Rat) = 0 := rfl
    rw [this]
    constructor
    · grind
    · exact Rat.le_refl
  | succ n ih =>
    obtain ⟨i1, i2⟩ := ih
    have e : ((n + 1 : Nat) : Rat) = (n : Rat) + 1 := by exact_mod_cast rfl
    have n0 := rnat_nonneg n
    rw [Rat.pow_succ, e]
    generalize (1 + u) ^ n = W at *
    generalize (n : Rat) = m at *
    have k1 := rmul_le h0 h0
    have k3 : (1 + u) * (1 - (m + 1) * u) ≤ 1 - m * u := by
      have := rmul_le n0 (show 0 ≤ u * u by grind)
      grind
    have k4 := rmul_le k3 (show 0 ≤ W by grind)
    have k5 := rmul_le h0 (show 0 ≤ W by grind)
    constructor
    · grind
    · grind
theorem gS_le {y : Rat} (h0 : 0 ≤ y) (c : Nat) : (1 - y) * gS y c ≤ 1 := by
  rw [gS_mul]
  have := rpow_nonneg h0 c
  grind
theorem gS_nonneg {y : Rat} (h0 : 0 ≤ y) (c : Nat) : 0 ≤ gS y c := by
  induction c with
  | zero => exact Rat.le_refl
  | succ c ih =>
    have e : gS y (c + 1) = gS y c + y ^ c := rfl
    rw [e]
    have := rpow_nonneg h0 c
    grind
theorem atS_nonneg {x : Rat} (h0 : 0 ≤ x) (c : Nat) : 0 ≤ atS x c := by
  have e : atS 0 c = 0 := by unfold atS; grind
  have h := (atS_diff (x := 0) (z := x) (Rat.le_refl) h0 c).1
  have g := gS_nonneg (y := 0 * 0) (by grind) c
  have k := rmul_le g h0
  grind
/-- One step. -/
theorem step_up {x z : Rat} (h0 : 0 ≤ x) (h : x ≤ z) (hz : 3 * z ≤ 1) (c N : Nat) :
    (1 - z) * (1 + x) * eS (2 * atS z c) N ≤ (1 - x) * (1 + z) * (1 + 9 * ((z - x) * (z - x))) * eS (2 * atS x c) N := by
  have z0 : 0 ≤ z := by grind
  obtain ⟨d1, d2⟩ := atS_diff h0 h c
  obtain ⟨y0, y1⟩ := third z0 hz
  have g1 := gS_le y0 c
  have g0 := gS_nonneg (y := x * x) (by have := rmul_le h0 h0; grind) c
  obtain ⟨δ, hδ⟩ : ∃ δ, atS z c - atS x c = δ := ⟨_, rfl⟩
  obtain ⟨s, hs⟩ : ∃ s, z - x = s := ⟨_, rfl⟩
  have s0 : 0 ≤ s := by grind
  rw [hδ, hs] at d1 d2
  have δ0 : 0 ≤ δ := by
    have := rmul_le g0 s0
    rw [Rat.mul_zero] at this
    exact Rat.le_trans this d1
  have wδ : (1 - z) * (1 + x) * δ ≤ s := by
    have a1 := rmul_le g1 s0
    have a2 := rmul_le d2 (show 0 ≤ 1 - z * z by grind)
    have a3 : (1 - z) * (1 + x) ≤ 1 - z * z := by
      have := rmul_le h (show 0 ≤ 1 - z by grind)
      grind
    have a4 := rmul_le a3 δ0
    generalize gS (z * z) c = g at *
    clear d1 g0
    grind
  have w23 : 2 ≤ 3 * ((1 - z) * (1 + x)) := by
    have := rmul_le h0 (show 0 ≤ 1 - z by grind)
    grind
  obtain ⟨w, hw⟩ : ∃ w, (1 - z) * (1 + x) = w := ⟨_, rfl⟩
  rw [hw] at wδ w23
  have δs : 2 * δ ≤ 3 * s := by
    have := rmul_le w23 δ0
    grind
  have s1 : 3 * s ≤ 1 := by grind
  have E0 := eS_nonneg (x := 2 * atS x c) (by have := atS_nonneg h0 c; grind) N
  have a := eS_add_le (x := 2 * atS x c) (y := 2 * δ) (by have := atS_nonneg h0 c; grind) (by grind) N
  have e : 2 * atS x c + 2 * δ = 2 * atS z c := by grind
  rw [e] at a
  have b := (eS_near (d := 2 * δ) (by grind) (by grind) N).2
  rw [hw, hs]
  have hxz : (1 - x) * (1 + z) = w + 2 * s := by grind
  rw [hxz]
  generalize eS (2 * atS x c) N = E at *
  generalize eS (2 * atS z c) N = E' at *
  generalize eS (2 * δ) N = D at *
  have k1 := rmul_le b (show 0 ≤ E by grind)
  have w0 : 0 ≤ w := by grind
  -- w (1 + 2d + 4dd) is at most (w + 2s)(1 + 9ss)
  have k2 : w * (1 + 2 * δ + 2 * δ * (2 * δ)) ≤ (w + 2 * s) * (1 + 9 * (s * s)) := by
    have m1 := rmul_le δs δ0
    have m2 := rmul_le δs s0
    have m3 := rmul_le s0 s0
    have m4 := rmul_le m3 w0
    have m5 := rmul_le m3 s0
    have m6 : 4 * (δ * δ) ≤ 9 * (s * s) := by grind
    have m7 := rmul_le m6 w0
    grind
  have k3 := rmul_le k2 (show 0 ≤ E by grind)
  have k4 := rmul_le (show E' ≤ E * (1 + 2 * δ + 2 * δ * (2 * δ)) by grind) w0
  grind
/-- n steps. -/
theorem steps_up {s : Rat} (h0 : 0 ≤ s) (c N : Nat) : ∀ n : Nat, 3 * (n * s) ≤ 1 → (1 - n * s) * eS (2 * atS (n * s) c) N ≤ (1 + n * s) * (1 + 9 * (s * s)) ^ n := by
  intro n
  induction n with
  | zero =>
    intro _
    have z : ((0 : Nat) : Rat) = 0 := rfl
    rw [z, Rat.pow_zero]
    have e : atS (0 * s) c = 0 := by unfold atS; grind
    rw [e]
    have e2 : ∀ N, eS (2 * 0) N = 1 := fun N => by
      induction N with
      | zero => rfl
      | succ N ih =>
        rw [eS_succ, ih]
        have := tk_succ (2 * 0) N
        have m0 : (0 : Rat) < ((N + 1 : Nat) : Rat) := rnat_pos (by omega)
        generalize ((N + 1 : Nat) : Rat) = m at *
        have : m * tk (2 * 0) (N + 1) = 0 := by grind
        grind
    rw [e2]
    grind
  | succ n ih =>
    intro hn
    have e : ((n + 1 : Nat) : Rat) = (n : Rat) + 1 := by exact_mod_cast rfl
    have n0 := rnat_nonneg n
    have ns := rmul_le h0 n0
    rw [e] at hn ⊢
    have i := ih (by grind)
    have st := step_up (x := n * s) (z := (n + 1) * s) (by grind) (by grind) hn c N
    rw [show ((n : Rat) + 1) * s - n * s = s by grind] at st
    rw [Rat.pow_succ]
    have W0 := (pow_small (u := 9 * (s * s)) (by have := rmul_le h0 h0; grind) n).2
    have q0 : 0 ≤ 9 * (s * s) := by have := rmul_le h0 h0; grind
    generalize eS (2 * atS (n * s) c) N = E at *
    generalize eS (2 * atS ((n + 1) * s) c) N = E' at *
    generalize (1 + 9 * (s * s)) ^ n = W at *
    generalize 9 * (s * s) = q at *
    have t : ((n : Rat) + 1) * s = n * s + s := by grind
    rw [t] at st hn ⊢
    generalize (n : Rat) * s = x at *
    refine rcancel (c := 1 + x) ?_ (by grind)
    have k := rmul_le i (show 0 ≤ (1 + (x + s)) * (1 + q) by
      have := rmul_le q0 (show 0 ≤ 1 + (x + s) by grind)
      grind)
    grind
/-- What is at most B/n for every n isn't above 0. -/
theorem rat_tiny {d B : Rat} (h : ∀ n : Nat, 0 < n → (n : Rat) * d ≤ B) : d ≤ 0 := by
  rcases Rat.le_total (a := d) (b := 0) with h1 | h1
  · exact h1
  · by_cases h2 : d = 0
    · rw [h2]; exact Rat.le_refl
    · have d0 : 0 < d := by grind
      obtain ⟨n, hn⟩ := rat_arch (B / d + 1)
      have hp : 0 < n + 1 := by omega
      have a := h (n + 1) hp
      have e : ((n + 1 : Nat) : Rat) = (n : Rat) + 1 := by exact_mod_cast rfl
      rw [e] at a
      have b := rmul_le hn (Rat.le_of_lt d0)
      have e2 : d * (B / d + 1) = B + d := by grind
      rw [e2] at b
      grind
/-- exp of twice atanh r isn't above (1 + r)/(1 - r). -/
theorem exp_at_le {r : Rat} (h0 : 0 ≤ r) (h1 : 3 * r ≤ 1) (c N : Nat) : (1 - r) * eS (2 * atS r c) N ≤ 1 + r := by
  have key : (1 - r) * eS (2 * atS r c) N - (1 + r) ≤ 0 := by
    refine rat_tiny (B := (1 - r) * eS (2 * atS r c) N) (fun n hn => ?_)
    have m0 := rnat_pos hn
    obtain ⟨i, hi, i1, i2, i3⟩ := inv_nat hn
    have e : (n : Rat) * (r * i) = r := by grind
    have st := steps_up (s := r * i) (by have := rmul_le i2 h0; grind) c N n (by rw [e]; exact h1)
    rw [e] at st
    obtain ⟨p1, p2⟩ := pow_small (u := 9 * (r * i * (r * i))) (by have a := rmul_le i2 h0; have := rmul_le (show 0 ≤ r * i by grind) (show 0 ≤ r * i by grind); grind) n
    have E0 := eS_nonneg (x := 2 * atS r c) (by have := atS_nonneg h0 c; grind) N
    obtain ⟨y0, y1⟩ := third h0 h1
    have e3 : (n : Rat) * (9 * (r * i * (r * i))) = 9 * (r * r) * i := by grind
    rw [e3] at p1
    have v1 : 9 * (r * r) * i ≤ i := by have := rmul_le y1 i2; grind
    have v0 : 0 ≤ 9 * (r * r) * i := by have := rmul_le y0 i2; grind
    generalize (1 + 9 * (r * i * (r * i))) ^ n = W at *
    generalize 9 * (r * r) * i = v at *
    generalize eS (2 * atS r c) N = E at *
    have B0 : 0 ≤ (1 - r) * E := by have := rmul_le (show 0 ≤ E by grind) (show 0 ≤ 1 - r by grind); grind
    have k1 := rmul_le st (show 0 ≤ 1 - v by grind)
    have k2 := rmul_le p1 (show 0 ≤ 1 + r by grind)
    have k3 := rmul_le v1 B0
    have k4 : (1 - r) * E - (1 + r) ≤ (1 - r) * E * i := by grind
    have k5 := rmul_le k4 (Rat.le_of_lt m0)
    have e4 : (n : Rat) * ((1 - r) * E * i) = (1 - r) * E := by
      rw [Rat.mul_comm ((1 - r) * E) i, ← Rat.mul_assoc, i1, Rat.one_mul]
    rw [e4] at k5
    exact k5
  grind
end Go.Proofs.YtijhdlkfihjbiaaGreatDoor
/- What the laws SeriesAdds and SeriesScales rest on: numbers alone. -/
namespace Go.Proofs.YtijhdlkfihjbiaaGreatDoor

end Go.Proofs.YtijhdlkfihjbiaaGreatDoor
/- The terms of exp as the landed package reckons them, each cut down or up twice. Between what they are, and how far apart; then what both ends of atanh and of exp come to: numbers alone. -/
namespace Go.Proofs.YtijhdlkfihjbiaaGreatDoor

/-- A term after the other. -/
def ek (g : Bool) (a S P : Nat) : Nat → Nat
  | 0 => P
  | k + 1 => ov g (ov g (ek g a S P k * a) S) (k + 1)
theorem ek_succ (g : Bool) (a S P k : Nat) : ek g a S P (k + 1) = ov g (ov g (ek g a S P k * a) S) (k + 1) := rfl

theorem ek_low (a S T k : Nat) : ek false a S (S * T) (k + 1) * (S * T * (k + 1)) ≤ ek false a S (S * T) k * (a * T) := by
  rw [ek_succ]
  have h1 := ov_low (ek false a S (S * T) k * a) S
  have h2 := ov_low (ov false (ek false a S (S * T) k * a) S) (k + 1)
  generalize ov false (ov false (ek false a S (S * T) k * a) S) (k + 1) = B at *
  generalize ov false (ek false a S (S * T) k * a) S = M at *
  generalize ek false a S (S * T) k = A at *
  have h3 := Nat.mul_le_mul_right (S * T) h2
  have h4 := Nat.mul_le_mul_right T h1
  calc B * (S * T * (k + 1)) = B * (k + 1) * (S * T) := by rw [Nat.mul_comm (S * T), ← Nat.mul_assoc]
    _ ≤ M * (S * T) := h3
    _ = M * S * T := (Nat.mul_assoc _ _ _).symm
    _ ≤ A * a * T := h4
    _ = A * (a * T) := Nat.mul_assoc _ _ _
theorem ek_high {S : Nat} (hS : 0 < S) (a T k : Nat) : ek true a S (S * T) k * (a * T) ≤ ek true a S (S * T) (k + 1) * (S * T * (k + 1)) := by
  rw [ek_succ]
  have h1 := ov_up hS (ek true a S (S * T) k * a)
  have h2 := ov_up (Nat.succ_pos k) (ov true (ek true a S (S * T) k * a) S)
  generalize ov true (ov true (ek true a S (S * T) k * a) S) (k + 1) = B at *
  generalize ov true (ek true a S (S * T) k * a) S = M at *
  generalize ek true a S (S * T) k = A at *
  have h3 := Nat.mul_le_mul_right (S * T) h2
  have h4 := Nat.mul_le_mul_right T h1
  calc A * (a * T) = A * a * T := (Nat.mul_assoc _ _ _).symm
    _ ≤ M * S * T := h4
    _ = M * (S * T) := Nat.mul_assoc _ _ _
    _ ≤ B * (k + 1) * (S * T) := h3
    _ = B * (S * T * (k + 1)) := by rw [Nat.mul_comm (S * T) (k + 1), Nat.mul_assoc]

theorem ek_lo {a S T : Nat} {x : Rat} (hS : 0 < S) (hT : 0 < T) (hx : 0 ≤ x) (h : (S : Rat) * x = (a : Rat)) : ∀ c, (sn (ek false a S (S * T)) c : Rat) ≤ ((S * T : Nat) : Rat) * eS x (c - 1) := by
  intro c
  have ha : ((a * T : Nat) : Rat) ≤ ((S * T : Nat) : Rat) * x := by
    have e1 : ((a * T : Nat) : Rat) = (a : Rat) * (T : Rat) := by exact_mod_cast rfl
    have e2 : ((S * T : Nat) : Rat) = (S : Rat) * (T : Rat) := by exact_mod_cast rfl
    rw [e1, e2, ← h]
    grind
  have key := fwd_ex_lo (P := S * T) (a := a * T) (t := ek false a S (S * T)) (Nat.mul_pos hS hT) hx Rat.le_refl ha (fun k => ek_low a S T k)
  cases c with
  | zero =>
    have e : ((sn (ek false a S (S * T)) 0 : Nat) : Rat) = 0 := by exact_mod_cast rfl
    rw [e]
    have p0 := rnat_nonneg (S * T)
    have := rmul_le (show (0 : Rat) ≤ eS x (0 - 1) by have := eS_nonneg hx (0 - 1); grind) p0
    grind
  | succ c => exact key c

theorem ek_terms {P b : Nat} {x : Rat} (hP : 0 < P) (hx : 0 ≤ x) {t : Nat → Nat} (h0 : (P : Rat) ≤ (t 0 : Rat)) (hb : (P : Rat) * x ≤ (b : Rat)) (ht : ∀ k, t k * b ≤ t (k + 1) * (P * (k + 1))) : ∀ k, P * tk x k ≤ (t k : Rat) := by
  have P0 := rnat_pos hP
  intro k
  induction k with
  | zero => rw [tk_zero]; grind
  | succ k ih =>
    have h' : (t k : Rat) * (b : Rat) ≤ ((t (k + 1) : Nat) : Rat) * ((P : Rat) * ((k + 1 : Nat) : Rat)) := by exact_mod_cast ht k
    have e := tk_succ x k
    have n0 := rnat_pos (show 0 < k + 1 by omega)
    have t0 := rnat_nonneg (t k)
    generalize ((k + 1 : Nat) : Rat) = N at *
    generalize tk x (k + 1) = U at *
    generalize tk x k = V at *
    have m1 := rmul_le hb t0
    have Px : 0 ≤ (P : Rat) * x := by
      have := rmul_le hx (Rat.le_of_lt P0)
      grind
    have m2 := rmul_le ih Px
    have NP : 0 < N * (P : Rat) := Rat.mul_pos n0 P0
    refine rcancel (c := N * (P : Rat)) ?_ NP
    have e1 : N * (P : Rat) * (P * U) = P * P * (N * U) := by grind
    rw [e1, e]
    grind
theorem ek_sums {P : Nat} {x : Rat} {t : Nat → Nat} (hk : ∀ k, P * tk x k ≤ (t k : Rat)) : ∀ c, P * eS x c ≤ (sn t (c + 1) : Rat) := by
  intro c
  induction c with
  | zero =>
    rw [sn_cast, eS_zero]
    have e : ((sn t 0 : Nat) : Rat) = 0 := by exact_mod_cast rfl
    have := hk 0
    rw [tk_zero] at this
    rw [e]
    grind
  | succ c ih =>
    rw [sn_cast, eS_succ]
    have := hk (c + 1)
    grind
/-- What follows d + 1 terms: twice the next one at most. -/
theorem eS_rest {x : Rat} (h0 : 0 ≤ x) (h1 : x ≤ 1) (d M : Nat) : eS x M ≤ eS x d + 2 * tk x (d + 1) := by
  have k0 := tk_nonneg h0 (d + 1)
  rcases Nat.le_total M d with h | h
  · obtain ⟨k, rfl⟩ : ∃ k, d = M + k := ⟨d - M, by omega⟩
    have := eS_mono h0 M k
    grind
  · obtain ⟨k, rfl⟩ : ∃ k, M = d + k := ⟨M - d, by omega⟩
    cases k with
    | zero => rw [Nat.add_zero]; grind
    | succ j =>
      have e := ge_more (x := x) (d + 1) j 1
      obtain ⟨_, b⟩ := ge_bd h0 h1 j (1 + (d + 1)) (by omega)
      have n2 : (2 : Rat) ≤ ((1 + (d + 1) : Nat) : Rat) := by exact_mod_cast (show 2 ≤ 1 + (d + 1) by omega)
      have s := eS_succ x d
      have e1 : eS x (d + (j + 1)) = ge_ x (d + 1 + j) 1 := by unfold eS; rw [show d + (j + 1) = d + 1 + j by omega]
      have e2 : eS x (d + 1) = ge_ x (d + 1) 1 := rfl
      have e3 : tk x (d + 1) = tt x (d + 1) 1 := rfl
      rw [e1, e, ← e2, ← e3, s]
      generalize ge_ x j (1 + (d + 1)) = G at *
      generalize ((1 + (d + 1) : Nat) : Rat) = N at *
      have g2 : G ≤ 2 := by
        refine rcancel (c := N) ?_ (by grind)
        grind
      have := rmul_le g2 k0
      grind
theorem ek_all {a S T c : Nat} {x : Rat} (hS : 0 < S) (hT : 0 < T) (hx : 0 ≤ x) (h1 : x ≤ 1) (h : (S : Rat) * x = (a : Rat)) (hc : 1 ≤ c) : ∀ M, ((S * T : Nat) : Rat) * eS x M ≤ ((sn (ek true a S (S * T)) c + (ek true a S (S * T) c + ek true a S (S * T) c) : Nat) : Rat) := by
  intro M
  have hb : ((S * T : Nat) : Rat) * x ≤ ((a * T : Nat) : Rat) := by
    have e1 : ((a * T : Nat) : Rat) = (a : Rat) * (T : Rat) := by exact_mod_cast rfl
    have e2 : ((S * T : Nat) : Rat) = (S : Rat) * (T : Rat) := by exact_mod_cast rfl
    rw [e1, e2, ← h]
    grind
  have hk := ek_terms (P := S * T) (b := a * T) (t := ek true a S (S * T)) (Nat.mul_pos hS hT) hx Rat.le_refl hb (fun k => ek_high hS a T k)
  obtain ⟨d, rfl⟩ : ∃ d, c = d + 1 := ⟨c - 1, by omega⟩
  have hs := ek_sums hk d
  have hk1 := hk (d + 1)
  have r := eS_rest hx h1 d M
  have P0 := rnat_nonneg (S * T)
  have m := rmul_le r P0
  have e1 : ((sn (ek true a S (S * T)) (d + 1) + (ek true a S (S * T) (d + 1) + ek true a S (S * T) (d + 1)) : Nat) : Rat) = (sn (ek true a S (S * T)) (d + 1) : Rat) + ((ek true a S (S * T) (d + 1) : Rat) + (ek true a S (S * T) (d + 1) : Rat)) := by exact_mod_cast rfl
  rw [e1]
  grind

/-- Each is at most the one ahead divided by its place, and cut up. -/
theorem ek_step (g : Bool) {a S P : Nat} (hS : 0 < S) (ha : a ≤ S) (k : Nat) : ek g a S P (k + 1) ≤ ov true (ek g a S P k) (k + 1) := by
  rw [ek_succ]
  refine ov_mono g (Nat.succ_pos k) ?_
  exact ov_most hS g (Nat.mul_le_mul_left _ ha)
theorem ek_fall (g : Bool) {a S P : Nat} (hS : 0 < S) (ha : a ≤ S) (k : Nat) : ek g a S P (k + 1) ≤ ek g a S P k := by
  refine Nat.le_trans (ek_step g hS ha k) (ov_most (Nat.succ_pos k) true ?_)
  exact Nat.le_mul_of_pos_right _ (Nat.succ_pos k)
theorem ek_top (g : Bool) {a S P : Nat} (hS : 0 < S) (ha : a ≤ S) : ∀ k, ek g a S P k ≤ P
  | 0 => Nat.le_refl _
  | k + 1 => Nat.le_trans (ek_fall g hS ha k) (ek_top g hS ha k)
theorem blen_less {w : Nat} : blen (2 ^ w - 1) ≤ w := blen_le_iff.2 (Nat.sub_lt (Nat.two_pow_pos w) Nat.one_pos)
/-- So there are few. -/
theorem ek_few (g : Bool) {a S w : Nat} (hS : 0 < S) (ha : a ≤ S) : ∀ k, (∀ j, j < k → 1 < ek g a S (2 ^ w) j) → k + blen (ek g a S (2 ^ w) k - 1) ≤ w + 1 := by
  intro k
  induction k with
  | zero =>
    intro _
    have := blen_less (w := w)
    show 0 + blen (2 ^ w - 1) ≤ w + 1
    omega
  | succ k ih =>
    intro h
    have i := ih (fun j hj => h j (by omega))
    have h1 := h k (by omega)
    rcases Nat.eq_zero_or_pos k with h0 | h0
    · subst h0
      have h2 : ek g a S (2 ^ w) (0 + 1) ≤ 2 ^ w := ek_fall g hS ha 0
      have h3 := blen_mono (Nat.sub_le_sub_right h2 1)
      have := blen_less (w := w)
      omega
    · have h2 := ek_step g (P := 2 ^ w) hS ha k
      have h3 : ov true (ek g a S (2 ^ w) k) (k + 1) ≤ (ek g a S (2 ^ w) k + 1) / 2 := by
        refine ov_most (Nat.succ_pos k) true ?_
        have h5 : (ek g a S (2 ^ w) k + 1) / 2 * 2 ≤ (ek g a S (2 ^ w) k + 1) / 2 * (k + 1) := Nat.mul_le_mul_left _ (by omega)
        exact Nat.le_trans (by omega) h5
      have h4 : ek g a S (2 ^ w) (k + 1) - 1 ≤ (ek g a S (2 ^ w) k - 1) / 2 := by omega
      have h5 := blen_mono h4
      have h6 := blen_half (x := ek g a S (2 ^ w) k - 1) (by omega)
      omega
theorem ek_ord {a S P : Nat} (hS : 0 < S) : ∀ k, ek false a S P k ≤ ek true a S P k
  | 0 => Nat.le_refl _
  | k + 1 => ov_mono false (Nat.succ_pos k) (ov_mono false hS (Nat.mul_le_mul_right _ (ek_ord hS k)))
theorem ek_gap {a S P : Nat} (hS : 0 < S) (ha : a ≤ S) : ∀ k, ek true a S P k ≤ ek false a S P k + 4 := by
  have mid : ∀ k q, ek true a S P k ≤ ek false a S P k + q → ov true (ek true a S P k * a) S ≤ ov false (ek false a S P k * a) S + q + 1 := by
    intro k q h
    refine Nat.le_trans (ov_le true _ _) (Nat.succ_le_succ ?_)
    show _ ≤ ek false a S P k * a / S + q
    have h1 : ek true a S P k * a ≤ ek false a S P k * a + q * S := by
      refine Nat.le_trans (Nat.mul_le_mul_right _ h) ?_
      rw [Nat.add_mul]
      exact Nat.add_le_add_left (Nat.mul_le_mul_left _ ha) _
    have h2 := Nat.div_le_div_right (c := S) h1
    rw [Nat.add_mul_div_right _ _ hS] at h2
    exact h2
  intro k
  induction k with
  | zero => exact Nat.le_add_right _ _
  | succ k ih =>
    rw [ek_succ, ek_succ]
    rcases Nat.eq_zero_or_pos k with h0 | h0
    · subst h0
      have h1 := mid 0 0 (Nat.le_refl _)
      refine Nat.le_trans (ov_le true _ _) ?_
      rw [Nat.div_one]
      show _ ≤ ov false (ek false a S P 0 * a) S / 1 + 4
      rw [Nat.div_one]
      omega
    · have h1 := mid k 4 ih
      refine Nat.le_trans (ov_le true _ _) ?_
      show _ ≤ ov false (ek false a S P k * a) S / (k + 1) + 4
      have h2 : ov true (ek true a S P k * a) S ≤ ov false (ek false a S P k * a) S + 3 * (k + 1) := by omega
      have h3 := Nat.div_le_div_right (c := k + 1) h2
      rw [Nat.add_mul_div_right _ _ (show 0 < k + 1 from Nat.succ_pos k)] at h3
      omega
/-- Both sums, each ahead of its first term that is at most 1. -/
theorem en_gap {a S P c d : Nat} (hS : 0 < S) (ha : a ≤ S) (hc : ek false a S P c ≤ 1) (hc2 : ∀ j, j < c → 1 < ek false a S P j) (hd : ek true a S P d ≤ 1) :
    sn (ek true a S P) d ≤ sn (ek false a S P) c + 5 * d := by
  have hcd : c ≤ d := Nat.le_of_not_lt fun h => by
    have h1 := hc2 d h
    have h2 := ek_ord (a := a) (P := P) hS d
    omega
  have low : ∀ j, ek false a S P (c + j) ≤ 1 := by
    intro j
    induction j with
    | zero => exact hc
    | succ j ih => exact Nat.le_trans (ek_fall false hS ha (c + j)) ih
  have first : ∀ j, sn (ek true a S P) j ≤ sn (ek false a S P) j + 5 * j := by
    intro j
    induction j with
    | zero => exact Nat.le_refl _
    | succ j ih =>
      have := ek_gap (P := P) hS ha j
      show sn (ek true a S P) j + ek true a S P j ≤ sn (ek false a S P) j + ek false a S P j + 5 * (j + 1)
      omega
  have rest : ∀ j, sn (ek true a S P) (c + j) ≤ sn (ek false a S P) c + 5 * (c + j) := by
    intro j
    induction j with
    | zero => exact first c
    | succ j ih =>
      have h1 := ek_gap (P := P) hS ha (c + j)
      have h2 := low j
      show sn (ek true a S P) (c + j) + ek true a S P (c + j) ≤ _
      omega
  have := rest (d - c)
  rw [show c + (d - c) = d by omega] at this
  exact this

/-- What is told of one end. -/
def tolN (g : Bool) (S L : Nat) : Nat := ov g (S + (if g then L + L else 0)) (2 ^ 64)
theorem tol_lo (S L : Nat) : tolN false S L * 2 ^ 64 ≤ S := ov_low S _
theorem tol_hi (S L : Nat) : S + (L + L) ≤ tolN true S L * 2 ^ 64 := ov_up (Nat.two_pow_pos 64) _
theorem tol_gap {S1 L1 S2 L2 q : Nat} (h : S2 ≤ S1 + q) (hL : L2 ≤ 1) (hq : q + 2 ≤ 18446744073709551616) : tolN true S2 L2 ≤ tolN false S1 L1 + 2 := by
  have h1 : tolN true S2 L2 ≤ (S2 + (L2 + L2)) / 2 ^ 64 + 1 := ov_le true _ _
  have h2 : (S2 + (L2 + L2)) / 2 ^ 64 ≤ (S1 + (q + 2)) / 2 ^ 64 := Nat.div_le_div_right (by omega)
  have h3 := add_div_le (a := S1) (b := q + 2) (d := 2 ^ 64) (Nat.two_pow_pos 64) (by omega)
  have h4 : tolN false S1 L1 = S1 / 2 ^ 64 := rfl
  omega

/-- One end of atanh. -/
def AtV (g : Bool) (X Y s V : Nat) : Prop := ∃ c, c ≤ 20000 ∧ pk g (X * X) (Y * Y) (ov g (X * 2 ^ (s + 64)) Y) c ≤ 1 ∧ (∀ j, j < c → 1 < pk g (X * X) (Y * Y) (ov g (X * 2 ^ (s + 64)) Y) j) ∧
  V = tolN g (sn (tk1 g (X * X) (Y * Y) (ov g (X * 2 ^ (s + 64)) Y)) c) (pk g (X * X) (Y * Y) (ov g (X * 2 ^ (s + 64)) Y) c)
theorem at_both {X Y s lo hi : Nat} (hY : Y ≠ 0) (h3 : 3 * X ≤ Y) (h1 : AtV false X Y s lo) (h2 : AtV true X Y s hi) : AtB X Y s lo hi ∧ lo ≤ hi ∧ hi ≤ lo + 2 := by
  obtain ⟨c, hc0, hc1, hc2, hl⟩ := h1
  obtain ⟨d, hd0, hd1, _, hh⟩ := h2
  have hY0 : 0 < Y := Nat.pos_of_ne_zero hY
  have hD : 0 < Y * Y := Nat.mul_pos hY0 hY0
  have h9 : 9 * (X * X) ≤ Y * Y := by
    have := Nat.mul_le_mul h3 h3
    rw [show 3 * X * (3 * X) = 9 * (X * X) by rw [Nat.mul_assoc, Nat.mul_left_comm X 3 X, ← Nat.mul_assoc]] at this
    exact this
  have hpq : ov false (X * 2 ^ (s + 64)) Y ≤ ov true (X * 2 ^ (s + 64)) Y := ov_mono false hY0 (Nat.le_refl _)
  have hqp : ov true (X * 2 ^ (s + 64)) Y ≤ ov false (X * 2 ^ (s + 64)) Y + 2 := Nat.le_trans (ov_le true _ _) (Nat.le_succ _)
  have gap := (sn_gap hD h9 hpq hqp hc1 hc2 hd1).2
  have hw : hi ≤ lo + 2 := by
    rw [hl, hh]
    exact tol_gap gap hd1 (by omega)
  have two : ((2 ^ (s + 64) : Nat) : Rat) = ((2 ^ 64 : Nat) : Rat) * ((2 ^ s : Nat) : Rat) := two_add s 64
  have hB : AtB X Y s lo hi := by
    intro x hx
    obtain ⟨x0, x1⟩ := frac_bd hY h3 hx
    have y0 := rnat_pos hY0
    have t0 := rnat_pos (Nat.two_pow_pos 64)
    have w0 := rnat_nonneg (2 ^ (s + 64))
    have e : x * x * ((Y * Y : Nat) : Rat) = ((X * X : Nat) : Rat) := by
      have e1 : ((Y * Y : Nat) : Rat) = (Y : Rat) * (Y : Rat) := by exact_mod_cast rfl
      have e2 : ((X * X : Nat) : Rat) = (X : Rat) * (X : Rat) := by exact_mod_cast rfl
      rw [e1, e2, ← hx]
      grind
    have eX : ((X * 2 ^ (s + 64) : Nat) : Rat) = (X : Rat) * ((2 ^ (s + 64) : Nat) : Rat) := by exact_mod_cast rfl
    have p1 : ((ov false (X * 2 ^ (s + 64)) Y : Nat) : Rat) ≤ ((2 ^ (s + 64) : Nat) : Rat) * x := by
      have h : ((ov false (X * 2 ^ (s + 64)) Y : Nat) : Rat) * (Y : Rat) ≤ ((X * 2 ^ (s + 64) : Nat) : Rat) := by exact_mod_cast ov_low (X * 2 ^ (s + 64)) Y
      rw [eX] at h
      generalize ((2 ^ (s + 64) : Nat) : Rat) = W at *
      refine rcancel (c := (Y : Rat)) ?_ y0
      grind
    have p2 : ((2 ^ (s + 64) : Nat) : Rat) * x ≤ ((ov true (X * 2 ^ (s + 64)) Y : Nat) : Rat) := by
      have h : ((X * 2 ^ (s + 64) : Nat) : Rat) ≤ ((ov true (X * 2 ^ (s + 64)) Y : Nat) : Rat) * (Y : Rat) := by exact_mod_cast ov_up hY0 (X * 2 ^ (s + 64))
      rw [eX] at h
      generalize ((2 ^ (s + 64) : Nat) : Rat) = W at *
      refine rcancel (c := (Y : Rat)) ?_ y0
      grind
    constructor
    · refine ⟨c, ?_⟩
      have k1 := tk_lo hD x0 e p1 c
      have k2 := tol_lo (sn (tk1 false (X * X) (Y * Y) (ov false (X * 2 ^ (s + 64)) Y)) c) (pk false (X * X) (Y * Y) (ov false (X * 2 ^ (s + 64)) Y) c)
      rw [← hl] at k2
      have k3 : (lo : Rat) * ((2 ^ 64 : Nat) : Rat) ≤ (sn (tk1 false (X * X) (Y * Y) (ov false (X * 2 ^ (s + 64)) Y)) c : Rat) := by exact_mod_cast k2
      rw [two] at k1
      refine rcancel (c := ((2 ^ 64 : Nat) : Rat)) ?_ t0
      grind
    · intro M
      have k1 := tk_all (c := d) hD x0 x1 w0 e p2 M
      have k2 := tol_hi (sn (tk1 true (X * X) (Y * Y) (ov true (X * 2 ^ (s + 64)) Y)) d) (pk true (X * X) (Y * Y) (ov true (X * 2 ^ (s + 64)) Y) d)
      rw [← hh] at k2
      have k3 : ((sn (tk1 true (X * X) (Y * Y) (ov true (X * 2 ^ (s + 64)) Y)) d + (pk true (X * X) (Y * Y) (ov true (X * 2 ^ (s + 64)) Y) d + pk true (X * X) (Y * Y) (ov true (X * 2 ^ (s + 64)) Y) d) : Nat) : Rat) ≤ (hi : Rat) * ((2 ^ 64 : Nat) : Rat) := by exact_mod_cast k2
      rw [two] at k1
      refine rcancel (c := ((2 ^ 64 : Nat) : Rat)) ?_ t0
      grind
  refine ⟨hB, ?_, hw⟩
  obtain ⟨x, hx⟩ := frac_of (X := X) hY
  obtain ⟨⟨k, k1⟩, k2⟩ := hB x hx
  exact cast_le (Rat.le_trans k1 (k2 k))
theorem ln2_both {s lo hi : Nat} (h1 : AtV false 1 3 (s + 1) lo) (h2 : AtV true 1 3 (s + 1) hi) : Ln2B s lo hi ∧ lo ≤ hi ∧ hi ≤ lo + 2 := by
  obtain ⟨hB, h4, h5⟩ := at_both (by decide) (by decide) h1 h2
  refine ⟨?_, h4, h5⟩
  intro x hx
  have e1 : ((1 : Nat) : Rat) = 1 := by exact_mod_cast rfl
  have e3 : ((3 : Nat) : Rat) = 3 := by exact_mod_cast rfl
  obtain ⟨⟨c, k1⟩, k2⟩ := hB x (by rw [e1, e3]; grind)
  have two : ((2 ^ (s + 1) : Nat) : Rat) = ((2 ^ 1 : Nat) : Rat) * ((2 ^ s : Nat) : Rat) := two_add s 1
  have e2 : ((2 ^ 1 : Nat) : Rat) = 2 := by exact_mod_cast rfl
  rw [two, e2] at k1 k2
  refine ⟨⟨c, by grind⟩, fun M => ?_⟩
  have := k2 M
  grind

/-- One end of exp. -/
def ExV (g : Bool) (a s V : Nat) : Prop := ∃ c, 1 ≤ c ∧ c ≤ 20000 ∧ ek g a (2 ^ s) (2 ^ s * 2 ^ 64) c ≤ 1 ∧ (∀ j, j < c → 1 < ek g a (2 ^ s) (2 ^ s * 2 ^ 64) j) ∧
  V = tolN g (sn (ek g a (2 ^ s) (2 ^ s * 2 ^ 64)) c) (ek g a (2 ^ s) (2 ^ s * 2 ^ 64) c)
theorem ex_both {a b s lo hi : Nat} (hab : a ≤ b) (hb : b ≤ 2 ^ s) (h1 : ExV false a s lo) (h2 : ExV true b s hi) : ExB a b s lo hi ∧ lo ≤ hi ∧ (a = b → hi ≤ lo + 2) := by
  obtain ⟨c, hc, hc0, hc1, hc2, hl⟩ := h1
  obtain ⟨d, hd, hd0, hd1, _, hh⟩ := h2
  have hS := Nat.two_pow_pos s
  have hT := Nat.two_pow_pos 64
  have t0 := rnat_pos hT
  have two : ((2 ^ s * 2 ^ 64 : Nat) : Rat) = ((2 ^ 64 : Nat) : Rat) * ((2 ^ s : Nat) : Rat) := by
    rw [Nat.mul_comm]; exact_mod_cast rfl
  have L : ∀ x : Rat, ((2 ^ s : Nat) : Rat) * x = (a : Rat) → ∃ c, (lo : Rat) ≤ ((2 ^ s : Nat) : Rat) * eS x c := by
    intro x hx
    obtain ⟨z, hz, z0, _⟩ := ex_frac a s (Nat.le_trans hab hb)
    have hxz : x = z := by
      have s0 := rnat_pos hS
      have i1 : x ≤ z := rcancel (c := ((2 ^ s : Nat) : Rat)) (by rw [hx, hz]; exact Rat.le_refl) s0
      have i2 : z ≤ x := rcancel (c := ((2 ^ s : Nat) : Rat)) (by rw [hx, hz]; exact Rat.le_refl) s0
      exact Rat.le_antisymm i1 i2
    subst hxz
    refine ⟨c - 1, ?_⟩
    have k1 := ek_lo hS hT z0 hx c
    have k2 := tol_lo (sn (ek false a (2 ^ s) (2 ^ s * 2 ^ 64)) c) (ek false a (2 ^ s) (2 ^ s * 2 ^ 64) c)
    rw [← hl] at k2
    have k3 : (lo : Rat) * ((2 ^ 64 : Nat) : Rat) ≤ (sn (ek false a (2 ^ s) (2 ^ s * 2 ^ 64)) c : Rat) := by exact_mod_cast k2
    rw [two] at k1
    refine rcancel (c := ((2 ^ 64 : Nat) : Rat)) ?_ t0
    grind
  have H : ∀ x : Rat, ((2 ^ s : Nat) : Rat) * x = (b : Rat) → ∀ c, ((2 ^ s : Nat) : Rat) * eS x c ≤ (hi : Rat) := by
    intro x hx M
    obtain ⟨z, hz, z0, z1⟩ := ex_frac b s hb
    have hxz : x = z := by
      have s0 := rnat_pos hS
      have i1 : x ≤ z := rcancel (c := ((2 ^ s : Nat) : Rat)) (by rw [hx, hz]; exact Rat.le_refl) s0
      have i2 : z ≤ x := rcancel (c := ((2 ^ s : Nat) : Rat)) (by rw [hx, hz]; exact Rat.le_refl) s0
      exact Rat.le_antisymm i1 i2
    subst hxz
    have k1 := ek_all hS hT z0 z1 hx hd M
    have k2 := tol_hi (sn (ek true b (2 ^ s) (2 ^ s * 2 ^ 64)) d) (ek true b (2 ^ s) (2 ^ s * 2 ^ 64) d)
    rw [← hh] at k2
    have k3 : ((sn (ek true b (2 ^ s) (2 ^ s * 2 ^ 64)) d + (ek true b (2 ^ s) (2 ^ s * 2 ^ 64) d + ek true b (2 ^ s) (2 ^ s * 2 ^ 64) d) : Nat) : Rat) ≤ (hi : Rat) * ((2 ^ 64 : Nat) : Rat) := by exact_mod_cast k2
    rw [two] at k1
    refine rcancel (c := ((2 ^ 64 : Nat) : Rat)) ?_ t0
    grind
  refine ⟨⟨L, H⟩, ?_, fun hE => ?_⟩
  · obtain ⟨x, hx, x0, _⟩ := ex_frac a s (Nat.le_trans hab hb)
    obtain ⟨y, hy, y0, _⟩ := ex_frac (b - a) s (by omega)
    have hxy : ((2 ^ s : Nat) : Rat) * (x + y) = (b : Rat) := by
      have e : (b : Rat) = (a : Rat) + ((b - a : Nat) : Rat) := by
        have : ((a + (b - a) : Nat) : Rat) = (a : Rat) + ((b - a : Nat) : Rat) := by exact_mod_cast rfl
        rw [← this, show a + (b - a) = b by omega]
      rw [e]; grind
    obtain ⟨k, k1⟩ := L x hx
    have k2 := H (x + y) hxy (k + 0)
    have m := eS_mul_le x0 y0 k 0
    rw [eS_zero] at m
    have s0 := rnat_nonneg (2 ^ s)
    have m2 := rmul_le m s0
    refine cast_le ?_
    grind
  · subst hE
    have gap := en_gap hS hb hc1 hc2 hd1
    rw [hl, hh]
    exact tol_gap gap hd1 (by omega)
end Go.Proofs.YtijhdlkfihjbiaaGreatDoor
/- The walks of series.power and of an edge's over, halved and told. -/
namespace Go.Proofs.YtijhdlkfihjbiaaGreatDoor
open Go.RowKit

/-- A bare list of few bits is short. -/
theorem bare_le {w : World} {A : Option Addr} {m c k : Nat} {zs : List Nat} (hl : Lim w A m c zs) (hb : Bare zs) (h : blen (val zs) ≤ 64 * k) : m ≤ k := by
  have h1 := bare_len hl.words hb
  rw [hl.len] at h1
  omega

set_option maxHeartbeats 1000000 in
theorem spower_l (k : Nat) (w : World) (hk : k ≤ 60000) : Calls Tryz.prog 59 #[.int .i64 (k : Int)] w (Tells w (2 ^ k) (k + 2)) := by
  have HO := Lib.hid (of_any 1 (by decide) w)
  go_enter Tryz.func59, Tryz.ntmps59
  go_wp2_with fail
  refine HO.out.mono ?_
  rintro e w1 ⟨A1, m1, c1, zs, rfl, hm1, hl1, hb1, hv1, hB1⟩
  have h2 := shl_all A1 m1 c1 zs w1 hl1 (by omega) k (Or.inl (by
    rw [hv1, show blen 1 = 1 from rfl]; omega))
  rw [hv1, Nat.one_mul] at h2
  have H2 := Lib.hid h2
  have HS := Lib.hid hB1
  clear h2 hl1 hb1 hv1 hB1 HO
  go_wp2_with fail
  refine H2.out.mono ?_
  rintro e w2 ⟨A2, m2, c2, us, rfl, hm2, hl2, hb2, hv2, hB2⟩
  have Hfin : Hid (Tells w (2 ^ k) (k + 2) (.returned (.slice A2 m2 c2)) w2) := ⟨A2, m2, c2, us, rfl, by omega, hl2, hb2, hv2, HS.out.trans (hB2.mono HS.out.size)⟩
  clear hl2 hb2 hv2 hB2 H2 HS
  go_wp2
  go_ret
  exact Hfin.out

set_option maxHeartbeats 1000000 in
theorem sover_l (g : Bool) (A : Option Addr) (n c : Nat) (xs : List Nat) (B : Option Addr) (m d : Nat) (ys : List Nat) (w : World) (hA : Lim w A n c xs) (hB : Lim w B m d ys) (hn : n ≤ 1000000) (hm : m ≤ 1000000) (h0 : val ys ≠ 0) (hT : Tab w) :
    Calls Tryz.prog 106 #[.bool g, .slice A n c, .slice B m d] w (Tells w (ov g (val xs) (val ys)) (n + 2)) := by
  cases g with
  | false =>
    have H1 := Lib.hid (div_any A n c xs B m d ys w hA hB hn hm h0 hT)
    clear hA hB hn hm h0 hT
    go_enter Tryz.func106, Tryz.ntmps106
    go_wp2_with fail
    refine H1.out.mono ?_
    rintro e w1 ⟨A1, m1, c1, zs, A2, m2, c2, us, rfl, hm1, hm2, hl1, hl2, hb1, hb2, hv1, hv2, hB1⟩
    have Hfin : Hid (Tells w (ov false (val xs) (val ys)) (n + 2) (.returned (.slice A1 m1 c1)) w1) := ⟨A1, m1, c1, zs, rfl, by omega, hl1, hb1, hv1, hB1⟩
    clear hl1 hl2 hb1 hb2 hv1 hv2 hB1 H1
    go_wp2
    go_ret
    exact Hfin.out
  | true =>
    have H1 := Lib.hid (up_any A n c xs B m d ys w hA hB hn hm h0 hT)
    clear hA hB hn hm h0 hT
    go_enter Tryz.func106, Tryz.ntmps106
    go_wp2_with fail
    refine H1.out.mono ?_
    rintro e w1 ⟨A1, m1, c1, zs, rfl, hm1, hl1, hb1, hv1, hB1⟩
    have Hfin : Hid (Tells w (ov true (val xs) (val ys)) (n + 2) (.returned (.slice A1 m1 c1)) w1) := ⟨A1, m1, c1, zs, rfl, hm1, hl1, hb1, hv1, hB1⟩
    clear hl1 hb1 hv1 hB1 H1
    go_wp2
    go_ret
    exact Hfin.out

set_option maxHeartbeats 1000000 in
theorem shalved_l (g : Bool) (k : Nat) (A : Option Addr) (n c : Nat) (xs : List Nat) (w : World) (hA : Lim w A n c xs) (hn : n ≤ 1000000) (hk : k ≤ 1000000) (hT : Tab w) :
    Calls Tryz.prog 105 #[.bool g, .slice A n c, .int .i64 (k : Int)] w (Tells w (ov g (val xs) (2 ^ k)) (n + 2)) := by
  obtain ⟨bb, hbb⟩ : ∃ bb, decide (val xs % 2 ^ k ≠ 0) = bb := ⟨_, rfl⟩
  have H1 := Lib.hid (shr_l k A n c xs w hA (by omega) hT (by omega) bb hbb)
  have hv : ov g (val xs) (2 ^ k) = val xs / 2 ^ k + (if g && bb then 1 else 0) := by
    cases g
    · rfl
    · show upq _ _ = _
      unfold upq
      cases bb
      · rw [if_pos (Classical.not_not.1 (of_decide_eq_false hbb))]; rfl
      · rw [if_neg (of_decide_eq_true hbb)]; rfl
  rw [hv]
  clear hA hT hbb hv hk
  obtain ⟨V, hV⟩ : ∃ V, val xs / 2 ^ k = V := ⟨_, rfl⟩
  rw [hV] at H1 ⊢
  clear hV
  cases g with
  | false =>
    go_enter Tryz.func105, Tryz.ntmps105
    go_wp2_with fail
    refine H1.out.mono ?_
    rintro e w1 ⟨A1, m1, c1, zs, rfl, hm1, hl1, hb1, hv1, hB1⟩
    have Hfin : Hid (Tells w (V + (if false && bb then 1 else 0)) (n + 2) (.returned (.slice A1 m1 c1)) w1) := ⟨A1, m1, c1, zs, rfl, by omega, hl1, hb1, hv1, hB1⟩
    clear hl1 hb1 hv1 hB1 H1
    go_wp2
    go_ret
    exact Hfin.out
  | true =>
    cases bb with
    | false =>
      go_enter Tryz.func105, Tryz.ntmps105
      go_wp2_with fail
      refine H1.out.mono ?_
      rintro e w1 ⟨A1, m1, c1, zs, rfl, hm1, hl1, hb1, hv1, hB1⟩
      have Hfin : Hid (Tells w (V + (if true && false then 1 else 0)) (n + 2) (.returned (.slice A1 m1 c1)) w1) := ⟨A1, m1, c1, zs, rfl, by omega, hl1, hb1, hv1, hB1⟩
      clear hl1 hb1 hv1 hB1 H1
      go_wp2
      go_ret
      exact Hfin.out
    | true =>
      go_enter Tryz.func105, Tryz.ntmps105
      go_wp2_with fail
      refine H1.out.mono ?_
      rintro e w1 ⟨A1, m1, c1, zs, rfl, hm1, hl1, hb1, hv1, hB1⟩
      have HO := Lib.hid (of_any 1 (by decide) w1)
      have HA1 := Lib.hid hl1
      have HV1 := Lib.hid hv1
      have HS := Lib.hid hB1
      clear hl1 hb1 hv1 hB1 H1
      go_wp2_with fail
      refine HO.out.mono ?_
      rintro e w2 ⟨A2, m2, c2, us, rfl, hm2, hl2, hb2, hv2, hB2⟩
      have h3 := add_any A1 m1 c1 zs A2 m2 c2 us w2 (HA1.out.below hB2) hl2 (by omega) (by omega)
      rw [HV1.out, hv2] at h3
      have H3 := Lib.hid h3
      replace HS := Lib.hid (HS.out.trans (hB2.mono HS.out.size))
      clear h3 hl2 hb2 hv2 hB2 HO HA1 HV1
      go_wp2_with fail
      refine H3.out.mono ?_
      rintro e w3 ⟨A3, m3, c3, ts, rfl, hm3, hl3, hb3, hv3, hB3⟩
      have Hfin : Hid (Tells w (V + (if true && true then 1 else 0)) (n + 2) (.returned (.slice A3 m3 c3)) w3) := ⟨A3, m3, c3, ts, rfl, by omega, hl3, hb3, hv3, HS.out.trans (hB3.mono HS.out.size)⟩
      clear hl3 hb3 hv3 hB3 H3 HS
      go_wp2
      go_ret
      exact Hfin.out

/-- Sum of a list of three that the caller has just laid: one, and twice another. -/
theorem sum3_any (V1 V2 : Nat) (A : Option Addr) (n c : Nat) (xs : List Nat) (B : Option Addr) (m d : Nat) (ys : List Nat) (w : World) (hA : Lim w A n c xs) (hB : Lim w B m d ys) (hn : n ≤ 2000) (hm : m ≤ 2000) (h1 : val xs = V1) (h2 : val ys = V2) :
    Calls Tryz.prog 104 #[.slice (some ⟨w.heap.size, 0, none⟩) 3 3] (w.alloc (.cells #[.slice A n c, .slice B m d, .slice B m d] 22)) (Tells w (V1 + (V2 + V2)) 2001) := by
  have hb : Below w.heap.size w (w.alloc (.cells #[.slice A n c, .slice B m d, .slice B m d] 22)) := (Below.refl _ _).alloc (Nat.le_refl _) _
  have hL : Lims (w.alloc (.cells #[.slice A n c, .slice B m d, .slice B m d] 22)) w.heap.size 3 (fun j => if j = 0 then A else B) (fun j => if j = 0 then n else m) (fun j => if j = 0 then c else d) (fun j => if j = 0 then xs else ys) := by
    refine ⟨by simp, fun j hj => ?_⟩
    have h3 : j = 0 ∨ j = 1 ∨ j = 2 := by omega
    rcases h3 with rfl | rfl | rfl
    · exact ⟨by simp [World.cell?_alloc_new], hA.below hb, by show n ≤ _; omega⟩
    · exact ⟨by simp [World.cell?_alloc_new], hB.below hb, by show m ≤ _; omega⟩
    · exact ⟨by simp [World.cell?_alloc_new], hB.below hb, by show m ≤ _; omega⟩
  refine (sum_any w.heap.size 3 3 _ _ _ _ _ hL (by decide) 2000 (fun j _ => by split <;> omega)).mono ?_
  rintro e w' ⟨A1, m1, c1, ts, k1, k2, k3, k4, k5, k6⟩
  refine ⟨A1, m1, c1, ts, k1, k2, k3, k4, ?_, hb.trans (k6.mono hb.size)⟩
  rw [k5, ← h1, ← h2]
  simp [tot]
  omega

set_option maxHeartbeats 1000000 in
theorem stold_l (g : Bool) (S L : Nat) (A : Option Addr) (n c : Nat) (xs : List Nat) (B : Option Addr) (m d : Nat) (ys : List Nat) (w : World) (hA : Lim w A n c xs) (hB : Lim w B m d ys) (hn : n ≤ 2000) (hm : m ≤ 2000) (hT : Tab w) (hS : val xs = S) (hL : val ys = L) :
    Calls Tryz.prog 92 #[.bool g, .slice A n c, .slice B m d] w (Tells w (tolN g S L) 2100) := by
  cases g with
  | false =>
    have h1 := shalved_l false 64 A n c xs w hA (by omega) (by omega) hT
    rw [hS] at h1
    have H1 := Lib.hid h1
    clear h1 hA hB hm hT hS hL
    go_enter Tryz.func92, Tryz.ntmps92
    go_wp2_with fail
    refine H1.out.mono ?_
    rintro e w1 ⟨A1, m1, c1, zs, rfl, hm1, hl1, hb1, hv1, hB1⟩
    have Hfin : Hid (Tells w (tolN false S L) 2100 (.returned (.slice A1 m1 c1)) w1) := ⟨A1, m1, c1, zs, rfl, by omega, hl1, hb1, hv1, hB1⟩
    clear hl1 hb1 hv1 hB1 H1
    go_wp2
    go_ret
    exact Hfin.out
  | true =>
    have H1 := Lib.hid (sum3_any S L A n c xs B m d ys w hA hB hn hm hS hL)
    have HT := Lib.hid hT
    clear hA hB hm hT hS hL hn
    go_enter Tryz.func92, Tryz.ntmps92
    go_wp2_with fail
    refine H1.out.mono ?_
    rintro e w1 ⟨A1, m1, c1, zs, rfl, hm1, hl1, hb1, hv1, hB1⟩
    have h2 := shalved_l true 64 A1 m1 c1 zs w1 hl1 (by omega) (by omega) (HT.out.below hB1)
    rw [hv1] at h2
    have H2 := Lib.hid h2
    have HS := Lib.hid hB1
    clear h2 hl1 hb1 hv1 hB1 H1 HT
    go_wp2_with fail
    refine H2.out.mono ?_
    rintro e w2 ⟨A2, m2, c2, us, rfl, hm2, hl2, hb2, hv2, hB2⟩
    have Hfin : Hid (Tells w (tolN true S L) 2100 (.returned (.slice A2 m2 c2)) w2) := ⟨A2, m2, c2, us, rfl, by omega, hl2, hb2, hv2, HS.out.trans (hB2.mono HS.out.size)⟩
    clear hl2 hb2 hv2 hB2 H2 HS
    go_wp2
    go_ret
    exact Hfin.out
end Go.Proofs.YtijhdlkfihjbiaaGreatDoor
/- The walks of an edge's odds and powers: sums ahead of the first power, the first term, that is at most 1. -/
namespace Go.Proofs.YtijhdlkfihjbiaaGreatDoor
open Go.RowKit

/-- What odds and powers tell: a sum, and what it ends at. -/
def SumTold (w : World) (t p : Nat → Nat) (e : Ending) (w' : World) : Prop :=
  ∃ q A1 m1 c1 zs A2 m2 c2 us, e = .returned (.tuple #[.slice A1 m1 c1, .slice A2 m2 c2]) ∧ m1 ≤ 200 ∧ m2 ≤ 200 ∧ Lim w' A1 m1 c1 zs ∧ Lim w' A2 m2 c2 us ∧ Below w.heap.size w w' ∧ q ≤ 20000 ∧ p q ≤ 1 ∧ (∀ j, j < q → 1 < p j) ∧ val zs = sn t q ∧ val us = p q

/-- Sums of so many that aren't great. -/
theorem sn_top {t : Nat → Nat} {P : Nat} : ∀ k, (∀ j, j < k → t j ≤ P) → sn t k ≤ k * P := by
  intro k
  induction k with
  | zero => intro _; exact Nat.zero_le _
  | succ k ih =>
    intro h
    have h1 := ih (fun j hj => h j (by omega))
    have h2 := h k (Nat.lt_succ_self k)
    rw [Nat.add_mul, Nat.one_mul]
    show sn t k + t k ≤ _
    omega
/-- .. so they are short. -/
theorem sn_short {t : Nat → Nat} {w k : Nat} (hw : w ≤ 9100) (hk : k ≤ 10000) (h : ∀ j, j < k → t j ≤ 2 ^ w) : blen (sn t k) ≤ 64 * 200 := by
  have h1 := sn_top k h
  have h2 : k * 2 ^ w < 2 ^ 14 * 2 ^ w := Nat.mul_lt_mul_of_pos_right (by omega) (Nat.two_pow_pos w)
  rw [← Nat.pow_add] at h2
  have h3 : blen (sn t k) ≤ 14 + w := blen_le_iff.2 (Nat.lt_of_le_of_lt h1 h2)
  omega
theorem blen_tops {V w : Nat} (h : V ≤ 2 ^ w) : blen V ≤ w + 1 := by
  refine blen_le_iff.2 ?_
  have : 2 ^ w < 2 ^ (w + 1) := Nat.pow_lt_pow_right (by decide) (Nat.lt_succ_self w)
  omega

/-- The powers of a fraction that is at most a third fall. -/
theorem pk_top (g : Bool) {U D p w : Nat} (hD : 0 < D) (h9 : 9 * U ≤ D) (hp : p ≤ 2 ^ w) : ∀ k, (∀ j, j < k → 1 < pk g U D p j) → pk g U D p k ≤ 2 ^ w ∧ k + blen (pk g U D p k - 1) ≤ w := by
  intro k
  induction k with
  | zero =>
    intro _
    have h1 : p - 1 ≤ 2 ^ w - 1 := by omega
    have h2 := blen_mono h1
    have h3 := blen_less (w := w)
    refine ⟨hp, ?_⟩
    show 0 + blen (p - 1) ≤ w
    omega
  | succ k ih =>
    intro h
    obtain ⟨i1, i2⟩ := ih (fun j hj => h j (by omega))
    have h1 := h k (Nat.lt_succ_self k)
    have h2 := pk_step g hD h9 (p := p) k
    refine ⟨by omega, less_bits h2 h1 i2⟩
theorem tk1_top (g : Bool) {U D p : Nat} (k : Nat) : tk1 g U D p k ≤ pk g U D p k :=
  ov_most (by omega) g (Nat.le_mul_of_pos_right _ (by omega))

set_option maxHeartbeats 2000000 in
theorem sodds_l (g : Bool) (A : Option Addr) (n c : Nat) (xs : List Nat) (B : Option Addr) (m d : Nat) (ys : List Nat) (k : Nat) (w : World) (hA : Lim w A n c xs) (hB : Lim w B m d ys) (hn : n ≤ 70) (hm : m ≤ 70) (hT : Tab w) (hY : val ys ≠ 0) (h3 : 3 * val xs ≤ val ys) (hx : blen (val xs) ≤ 4096) (hy : blen (val ys) ≤ 4096) (hk : k ≤ 9100) :
    Calls Tryz.prog 95 #[.bool g, .slice A n c, .slice B m d, .int .i64 (k : Int)] w (SumTold w (tk1 g (val xs * val xs) (val ys * val ys) (ov g (val xs * 2 ^ k) (val ys))) (pk g (val xs * val xs) (val ys * val ys) (ov g (val xs * 2 ^ k) (val ys)))) := by
  obtain ⟨X, hX⟩ : ∃ X, val xs = X := ⟨_, rfl⟩
  obtain ⟨Y, hYY⟩ : ∃ Y, val ys = Y := ⟨_, rfl⟩
  obtain ⟨U, hU⟩ : ∃ U, X * X = U := ⟨_, rfl⟩
  obtain ⟨D, hD⟩ : ∃ D, Y * Y = D := ⟨_, rfl⟩
  have h1 := mul_any A n c xs A n c xs w hA hA (by omega) (by omega) (Or.inr (Or.inr (by omega)))
  have h2 : Hid (∀ u, Below w.heap.size w u → Calls Tryz.prog 102 #[.slice B m d, .slice B m d] u (Tells2 u D (m + m) (.int .i64 0))) := fun u hu => by
    have h := mul_any B m d ys B m d ys u (hB.below hu) (hB.below hu) (by omega) (by omega) (Or.inr (Or.inr (by omega)))
    rw [hYY, hD] at h
    exact h
  have hbU : blen U ≤ 8192 := by
    rw [← hU, ← hX]
    have := blen_mul_le (val xs) (val xs)
    omega
  have h3' : Hid (∀ u, Below w.heap.size w u → Calls Tryz.prog 40 #[.slice A n c, .int .i64 (k : Int)] u (Tells2 u (X * 2 ^ k) (k + n + 1) (.int .i64 0))) := fun u hu => by
    have h := shl_all A n c xs u (hA.below hu) (by omega) k (Or.inl (by omega))
    rw [hX] at h
    exact h
  rw [hX, hU] at h1
  rw [hX, hYY, hU, hD]
  rw [hX, hYY] at h3
  rw [hYY] at hY
  have hY0 : 0 < Y := Nat.pos_of_ne_zero hY
  have hD0 : 0 < D := by rw [← hD]; exact Nat.mul_pos hY0 hY0
  have h9 : 9 * U ≤ D := by
    rw [← hU, ← hD]
    have := Nat.mul_le_mul h3 h3
    rw [show 3 * X * (3 * X) = 9 * (X * X) by rw [Nat.mul_assoc, Nat.mul_left_comm X 3 X, ← Nat.mul_assoc]] at this
    exact this
  obtain ⟨p, hp⟩ : ∃ p, ov g (X * 2 ^ k) Y = p := ⟨_, rfl⟩
  have hpk : p ≤ 2 ^ k := by
    rw [← hp]
    refine ov_most hY0 g ?_
    rw [Nat.mul_comm]
    exact Nat.mul_le_mul_left _ (by omega)
  have HP := Lib.hid (pk_top g (U := U) (D := D) (p := p) (w := k) hD0 h9 hpk)
  have HH : Hid (Lim w B m d ys ∧ val ys = Y ∧ Y ≠ 0 ∧ Tab w) := ⟨hB, hYY, hY, hT⟩
  have H1 := Lib.hid h1
  have Hp := Lib.hid hp
  have HD0 := Lib.hid hD0
  rw [hp]
  clear h1 hA hB hT hX hYY hU hD hY h3 hx hy hY0 h9 hp hpk hD0
  go_enter Tryz.func95, Tryz.ntmps95
  go_wp2_with fail
  refine H1.out.mono ?_
  rintro e w1 ⟨A1, m1, c1, uu, rfl, hm1, hl1, hb1, hv1, hB1⟩
  have HU : Hid (Lim w1 A1 m1 c1 uu ∧ val uu = U) := ⟨hl1, hv1⟩
  have HS := Lib.hid hB1
  have H2 := Lib.hid (h2.out w1 hB1)
  clear hl1 hb1 hv1 hB1 H1 h2
  go_wp2_with fail
  refine H2.out.mono ?_
  rintro e w2 ⟨A2, m2, c2, dd, rfl, hm2, hl2, hb2, hv2, hB2⟩
  replace HU : Hid (Lim w2 A1 m1 c1 uu ∧ val uu = U) := ⟨HU.out.1.below hB2, HU.out.2⟩
  replace HS := Lib.hid (HS.out.trans (hB2.mono HS.out.size))
  have HD : Hid (Lim w2 A2 m2 c2 dd ∧ val dd = D) := ⟨hl2, hv2⟩
  have H3 := Lib.hid (h3'.out w2 HS.out)
  clear hl2 hb2 hv2 hB2 H2 h3'
  go_wp2_with fail
  refine H3.out.mono ?_
  rintro e w3 ⟨A3, m3, c3, ll, rfl, hm3, hl3, hb3, hv3, hB3⟩
  replace HU : Hid (Lim w3 A1 m1 c1 uu ∧ val uu = U) := ⟨HU.out.1.below hB3, HU.out.2⟩
  replace HD : Hid (Lim w3 A2 m2 c2 dd ∧ val dd = D) := ⟨HD.out.1.below hB3, HD.out.2⟩
  replace HS := Lib.hid (HS.out.trans (hB3.mono HS.out.size))
  have h4 := sover_l g A3 m3 c3 ll B m d ys w3 hl3 (HH.out.1.below HS.out) (by omega) (by omega) (by rw [HH.out.2.1]; exact HH.out.2.2.1) (HH.out.2.2.2.below HS.out)
  rw [hv3, HH.out.2.1, Hp.out] at h4
  have H4 := Lib.hid h4
  clear h4 hl3 hb3 hv3 hB3 H3 Hp
  go_wp2_with fail
  refine H4.out.mono ?_
  rintro e w4 ⟨A4, m4, c4, vs, rfl, hm4, hl4, hb4, hv4, hB4⟩
  replace HU : Hid (Lim w4 A1 m1 c1 uu ∧ val uu = U) := ⟨HU.out.1.below hB4, HU.out.2⟩
  replace HD : Hid (Lim w4 A2 m2 c2 dd ∧ val dd = D) := ⟨HD.out.1.below hB4, HD.out.2⟩
  replace HS := Lib.hid (HS.out.trans (hB4.mono HS.out.size))
  have HT := Lib.hid (HH.out.2.2.2.below HS.out)
  have hs4 : m4 ≤ 200 := bare_le hl4 hb4 (by
    have h5 := blen_tops (HP.out 0 (fun j hj => absurd hj (Nat.not_lt_zero j))).1
    have h6 : val vs = pk g U D p 0 := hv4
    rw [h6]
    omega)
  have HL : Hid (Lim w4 A4 m4 c4 vs ∧ val vs = p) := ⟨hl4, hv4⟩
  clear hl4 hb4 hv4 hB4 H4 HH hm4
  go_wp2_with fail
  go_loopw [8, 9, 14] (fun s8 s9 s14 wr => ∃ (j K a1 b1 a2 b2 : Nat) (Z1 Z2 : Option Addr) (zs us : List Nat), s8 = .slice Z1 a1 b1 ∧ s9 = .slice Z2 a2 b2 ∧ s14 = .int .u64 (K : Int) ∧ a1 ≤ 200 ∧ a2 ≤ 200 ∧ Hid (K = 2 * j + 1) ∧ j ≤ k + 1 ∧ K ≤ 100000 ∧ Hid (Lim wr Z1 a1 b1 zs ∧ val zs = sn (tk1 g U D p) j) ∧ Hid (Lim wr Z2 a2 b2 us ∧ val us = pk g U D p j) ∧ Hid (∀ i, i < j → 1 < pk g U D p i) ∧ Hid (Below w4.heap.size w4 wr)) (fun _ _ s14 _ => 100000 - (intOf s14).toNat)
  case atStart => exact ⟨0, 1, 0, 0, m4, c4, none, A4, [], vs, rfl, rfl, rfl, by decide, hs4, rfl, by omega, by decide, ⟨Lim.nil _ _ _, rfl⟩, HL.out, fun j hj => absurd hj (Nat.not_lt_zero j), Below.refl _ _⟩
  case round =>
    obtain ⟨w5, rfl⟩ : ∃ w5, w5 = wr := ⟨_, rfl⟩
    obtain ⟨j, K, a1, b1, a2, b2, Z1, Z2, zs, us, rfl, rfl, rfl, ha1, ha2, HK, hj, hK, HZ, HV, HF, HS5⟩ := hrel
    obtain ⟨b, hb⟩ : ∃ b, blen (pk g U D p j) = b := ⟨_, rfl⟩
    have h5 := bits_l b Z2 a2 b2 us w5 HV.out.1 (by omega) (by show _ = _; rw [HV.out.2]; exact hb)
    have H5 := Lib.hid h5
    have htop := HP.out j HF.out
    have hbt := blen_tops htop.1
    rw [hb] at hbt
    clear h5 HL
    by_cases h1 : 1 < b
    · have d1 : decide ((1 : Int) < (b : Int)) = true := decide_eq_true (by omega)
      have d2 : decide (1 < b) = true := decide_eq_true h1
      have hgt : 1 < pk g U D p j := Nat.lt_of_not_le fun h9 => by
        have := blen_mono h9
        rw [hb, show blen 1 = 1 from rfl] at this
        omega
      have hjk : j + 1 ≤ k + 1 := by
        have := htop.2
        have := blen_pos (show pk g U D p j - 1 ≠ 0 by omega)
        omega
      have HF2 : Hid (∀ i, i < j + 1 → 1 < pk g U D p i) := fun i hi => by
        rcases Nat.lt_or_ge i j with h | h
        · exact HF.out i h
        · rw [show i = j by omega]; exact hgt
      have H6 := Lib.hid (of_any K (by omega) w5)
      obtain ⟨K2, hK2⟩ : ∃ K2, K + 2 = K2 := ⟨_, rfl⟩
      have eK : (K : Int) + 2 = (K2 : Int) := by omega
      have hK29 : K2 ≤ 100000 := by have := HK.out; omega
      have HK2 : Hid (K2 = 2 * (j + 1) + 1) := by show _ = _; have := HK.out; omega
      have hKK : K < K2 := by omega
      have Hbb : Hid (blen (pk g U D p j) ≤ 9101) := by show _ ≤ _; rw [hb]; omega
      clear htop hb hgt h1 hK2 HF
      go_wp2_with fail
      refine H5.out.mono ?_
      rintro e w' ⟨rfl, rfl⟩
      go_wp2_with fail
      refine H6.out.mono ?_
      rintro e w6 ⟨A6, m6, c6, es, rfl, hm6, hl6, hb6, hv6, hB6⟩
      have h7 := sover_l g Z2 a2 b2 us A6 m6 c6 es w6 (HV.out.1.below hB6) hl6 (by omega) (by omega) (by rw [hv6, HK.out]; omega) (HT.out.below (HS5.out.trans (hB6.mono HS5.out.size)))
      rw [HV.out.2, hv6, HK.out] at h7
      have H7 : Hid (Calls Tryz.prog 106 #[.bool g, .slice Z2 a2 b2, .slice A6 m6 c6] w6 (Tells w6 (tk1 g U D p j) (a2 + 2))) := h7
      replace HZ : Hid (Lim w6 Z1 a1 b1 zs ∧ val zs = sn (tk1 g U D p) j) := ⟨HZ.out.1.below hB6, HZ.out.2⟩
      replace HV : Hid (Lim w6 Z2 a2 b2 us ∧ val us = pk g U D p j) := ⟨HV.out.1.below hB6, HV.out.2⟩
      replace HS5 := Lib.hid (HS5.out.trans (hB6.mono HS5.out.size))
      clear h7 hl6 hb6 hv6 hB6 H5 H6 HK
      go_wp2_with fail
      refine H7.out.mono ?_
      rintro e w7 ⟨A7, m7, c7, ts, rfl, hm7, hl7, hb7, hv7, hB7⟩
      have h8 := add_any Z1 a1 b1 zs A7 m7 c7 ts w7 (HZ.out.1.below hB7) hl7 (by omega) (by omega)
      rw [HZ.out.2, hv7] at h8
      have H8 : Hid (Calls Tryz.prog 73 #[.slice Z1 a1 b1, .slice A7 m7 c7] w7 (Tells w7 (sn (tk1 g U D p) (j + 1)) (max a1 m7 + 1))) := h8
      replace HV : Hid (Lim w7 Z2 a2 b2 us ∧ val us = pk g U D p j) := ⟨HV.out.1.below hB7, HV.out.2⟩
      replace HS5 := Lib.hid (HS5.out.trans (hB7.mono HS5.out.size))
      clear h8 hl7 hb7 hv7 hB7 H7 HZ
      go_wp2_with fail
      refine H8.out.mono ?_
      rintro e w8 ⟨A8, m8, c8, gs, rfl, hm8, hl8, hb8, hv8, hB8⟩
      have hs8 : m8 ≤ 200 := bare_le hl8 hb8 (by
        rw [hv8]
        refine sn_short hk (by omega) (fun i hi => ?_)
        have h9 := (HP.out i (fun l hl => HF2.out l (by omega))).1
        have := tk1_top g (U := U) (D := D) (p := p) i
        omega)
      replace HV : Hid (Lim w8 Z2 a2 b2 us ∧ val us = pk g U D p j) := ⟨HV.out.1.below hB8, HV.out.2⟩
      replace HS5 := Lib.hid (HS5.out.trans (hB8.mono HS5.out.size))
      have HG : Hid (Lim w8 A8 m8 c8 gs ∧ val gs = sn (tk1 g U D p) (j + 1)) := ⟨hl8, hv8⟩
      have h9 := mul_any Z2 a2 b2 us A1 m1 c1 uu w8 HV.out.1 (HU.out.1.below HS5.out) (by omega) (by omega) (Or.inr (Or.inr (by
        rw [HV.out.2, HU.out.2]
        have := Hbb.out
        omega)))
      rw [HV.out.2, HU.out.2] at h9
      have H9 := Lib.hid h9
      clear h9 hl8 hb8 hv8 hB8 H8 HV Hbb hm8
      go_wp2_with fail
      refine H9.out.mono ?_
      rintro e w9 ⟨A9, m9, c9, qs, rfl, hm9, hl9, hb9, hv9, hB9⟩
      replace HG : Hid (Lim w9 A8 m8 c8 gs ∧ val gs = sn (tk1 g U D p) (j + 1)) := ⟨HG.out.1.below hB9, HG.out.2⟩
      replace HS5 := Lib.hid (HS5.out.trans (hB9.mono HS5.out.size))
      have h10 := sover_l g A9 m9 c9 qs A2 m2 c2 dd w9 hl9 (HD.out.1.below HS5.out) (by omega) (by omega) (by rw [HD.out.2]; have := HD0.out; omega) (HT.out.below HS5.out)
      rw [hv9, HD.out.2] at h10
      have H10 : Hid (Calls Tryz.prog 106 #[.bool g, .slice A9 m9 c9, .slice A2 m2 c2] w9 (Tells w9 (pk g U D p (j + 1)) (m9 + 2))) := h10
      clear h10 hl9 hb9 hv9 hB9 H9
      go_wp2_with fail
      refine H10.out.mono ?_
      rintro e w10 ⟨Aa, ma, ca, ks, rfl, hma, hla, hba, hva, hBa⟩
      have hsa : ma ≤ 200 := bare_le hla hba (by
        rw [hva]
        have := blen_tops (HP.out (j + 1) HF2.out).1
        omega)
      replace HG : Hid (Lim w10 A8 m8 c8 gs ∧ val gs = sn (tk1 g U D p) (j + 1)) := ⟨HG.out.1.below hBa, HG.out.2⟩
      replace HS5 := Lib.hid (HS5.out.trans (hBa.mono HS5.out.size))
      have HV2 : Hid (Lim w10 Aa ma ca ks ∧ val ks = pk g U D p (j + 1)) := ⟨hla, hva⟩
      clear hla hba hva hBa H10
      go_wp2
      go_roundw
      case rel => exact ⟨j + 1, K2, m8, c8, ma, ca, A8, Aa, gs, ks, rfl, rfl, by first | rfl | (rw [eK]), hs8, hsa, HK2, hjk, hK29, HG, HV2, HF2, HS5⟩
      case measure => simp [intOf]; omega
    · have d1 : decide ((1 : Int) < (b : Int)) = false := decide_eq_false (by omega)
      have d2 : decide (1 < b) = false := decide_eq_false h1
      have hle : pk g U D p j ≤ 1 := by
        have h6 := lt_blen (pk g U D p j)
        have h7 : 2 ^ blen (pk g U D p j) ≤ 2 ^ 1 := Nat.pow_le_pow_right (by decide) (by omega)
        omega
      have Hfin : Hid (SumTold w (tk1 g U D p) (pk g U D p) (.returned (.tuple #[.slice Z1 a1 b1, .slice Z2 a2 b2])) w5) :=
        ⟨j, Z1, a1, b1, zs, Z2, a2, b2, us, rfl, ha1, ha2, HZ.out.1, HV.out.1, HS.out.trans (HS5.out.mono HS.out.size), by omega, hle, HF.out, HZ.out.2, HV.out.2⟩
      clear HZ HV HS HS5 HF HP HU HD HT htop hle hb h1 HK
      go_wp2_with fail
      refine H5.out.mono ?_
      rintro e w' ⟨rfl, rfl⟩
      go_wp2
      go_ret2
      exact Hfin.out
set_option maxHeartbeats 2000000 in
theorem spowers_l (g : Bool) (a s k : Nat) (A : Option Addr) (n c : Nat) (xs : List Nat) (w : World) (hA : Lim w A n c xs) (hn : n ≤ 150) (hT : Tab w) (hv : val xs = a) (ha : a ≤ 2 ^ s) (hs : s ≤ 9000) (hk : s + 64 = k) :
    Calls Tryz.prog 93 #[.bool g, .slice A n c, .int .i64 (s : Int), .int .i64 (k : Int)] w (SumTold w (ek g a (2 ^ s) (2 ^ s * 2 ^ 64)) (ek g a (2 ^ s) (2 ^ s * 2 ^ 64))) := by
  have e0 : 2 ^ s * 2 ^ 64 = 2 ^ k := by rw [← Nat.pow_add, hk]
  rw [e0]
  have hk9 : k ≤ 9100 := by omega
  have hba := blen_tops ha
  have HP : Hid (∀ j, (∀ i, i < j → 1 < ek g a (2 ^ s) (2 ^ k) i) → ek g a (2 ^ s) (2 ^ k) j ≤ 2 ^ k ∧ j + blen (ek g a (2 ^ s) (2 ^ k) j - 1) ≤ k + 1) := fun j hj =>
    ⟨ek_top g (Nat.two_pow_pos s) ha j, ek_few g (Nat.two_pow_pos s) ha j hj⟩
  obtain ⟨S, hS⟩ : ∃ S, 2 ^ s = S := ⟨_, rfl⟩
  obtain ⟨P, hPP⟩ : ∃ P, 2 ^ k = P := ⟨_, rfl⟩
  have HA : Hid (Lim w A n c xs ∧ val xs = a ∧ blen a ≤ 9001 ∧ Tab w) := ⟨hA, hv, by omega, hT⟩
  have HSS := Lib.hid hS
  have HPP := Lib.hid hPP
  have H1 := Lib.hid (spower_l k w (by omega))
  rw [hS, hPP] at HP ⊢
  rw [hPP] at H1
  clear hA hT hv ha hba e0 hS hPP hk
  go_enter Tryz.func93, Tryz.ntmps93
  go_wp2_with fail
  refine H1.out.mono ?_
  rintro e w4 ⟨A4, m4, c4, vs, rfl, hm4, hl4, hb4, hv4, hB4⟩
  have HS := Lib.hid hB4
  have HT := Lib.hid (HA.out.2.2.2.below HS.out)
  replace HA : Hid (Lim w4 A n c xs ∧ val xs = a ∧ blen a ≤ 9001) := ⟨HA.out.1.below hB4, HA.out.2.1, HA.out.2.2.1⟩
  have hs4 : m4 ≤ 200 := bare_le hl4 hb4 (by
    rw [hv4, ← HPP.out]
    have h5 := blen_tops (Nat.le_refl (2 ^ k))
    omega)
  have HL : Hid (Lim w4 A4 m4 c4 vs ∧ val vs = P) := ⟨hl4, hv4⟩
  clear hl4 hb4 hv4 hB4 H1 hm4
  go_wp2_with fail
  go_loopw [8, 9, 10] (fun s8 s9 s14 wr => ∃ (j K a1 b1 a2 b2 : Nat) (Z1 Z2 : Option Addr) (zs us : List Nat), s8 = .slice Z1 a1 b1 ∧ s9 = .slice Z2 a2 b2 ∧ s14 = .int .u64 (K : Int) ∧ a1 ≤ 200 ∧ a2 ≤ 200 ∧ Hid (K = j + 1) ∧ j ≤ k + 2 ∧ K ≤ 100000 ∧ Hid (Lim wr Z1 a1 b1 zs ∧ val zs = sn (ek g a S P) j) ∧ Hid (Lim wr Z2 a2 b2 us ∧ val us = ek g a S P j) ∧ Hid (∀ i, i < j → 1 < ek g a S P i) ∧ Hid (Below w4.heap.size w4 wr)) (fun _ _ s14 _ => 100000 - (intOf s14).toNat)
  case atStart => exact ⟨0, 1, 0, 0, m4, c4, none, A4, [], vs, rfl, rfl, rfl, by decide, hs4, rfl, by omega, by decide, ⟨Lim.nil _ _ _, rfl⟩, HL.out, fun j hj => absurd hj (Nat.not_lt_zero j), Below.refl _ _⟩
  case round =>
    obtain ⟨w5, rfl⟩ : ∃ w5, w5 = wr := ⟨_, rfl⟩
    obtain ⟨j, K, a1, b1, a2, b2, Z1, Z2, zs, us, rfl, rfl, rfl, ha1, ha2, HK, hj, hK, HZ, HV, HF, HS5⟩ := hrel
    obtain ⟨b, hb⟩ : ∃ b, blen (ek g a S P j) = b := ⟨_, rfl⟩
    have h5 := bits_l b Z2 a2 b2 us w5 HV.out.1 (by omega) (by show _ = _; rw [HV.out.2]; exact hb)
    have H5 := Lib.hid h5
    have htop := HP.out j HF.out
    have hbt := blen_tops (w := k) (by rw [HPP.out]; exact htop.1)
    rw [hb] at hbt
    clear h5 HL
    by_cases h1 : 1 < b
    · have d1 : decide ((1 : Int) < (b : Int)) = true := decide_eq_true (by omega)
      have d2 : decide (1 < b) = true := decide_eq_true h1
      have hgt : 1 < ek g a S P j := Nat.lt_of_not_le fun h9 => by
        have := blen_mono h9
        rw [hb, show blen 1 = 1 from rfl] at this
        omega
      have hjk : j + 1 ≤ k + 2 := by
        have := htop.2
        have := blen_pos (show ek g a S P j - 1 ≠ 0 by omega)
        omega
      have HF2 : Hid (∀ i, i < j + 1 → 1 < ek g a S P i) := fun i hi => by
        rcases Nat.lt_or_ge i j with h | h
        · exact HF.out i h
        · rw [show i = j by omega]; exact hgt
      obtain ⟨K2, hK2⟩ : ∃ K2, K + 1 = K2 := ⟨_, rfl⟩
      have eK : (K : Int) + 1 = (K2 : Int) := by omega
      have hK29 : K2 ≤ 100000 := by have := HK.out; omega
      have HK2 : Hid (K2 = (j + 1) + 1) := by show _ = _; have := HK.out; omega
      have hKK : K < K2 := by omega
      have Hbb : Hid (blen (ek g a S P j) ≤ 9101) := by show _ ≤ _; rw [hb]; omega
      have h8 := add_any Z1 a1 b1 zs Z2 a2 b2 us w5 HZ.out.1 HV.out.1 (by omega) (by omega)
      rw [HZ.out.2, HV.out.2] at h8
      have H8 : Hid (Calls Tryz.prog 73 #[.slice Z1 a1 b1, .slice Z2 a2 b2] w5 (Tells w5 (sn (ek g a S P) (j + 1)) (max a1 a2 + 1))) := h8
      clear htop hb hgt h1 hK2 HF h8 HZ
      go_wp2_with fail
      refine H5.out.mono ?_
      rintro e w' ⟨rfl, rfl⟩
      go_wp2_with fail
      refine H8.out.mono ?_
      rintro e w8 ⟨A8, m8, c8, gs, rfl, hm8, hl8, hb8, hv8, hB8⟩
      have hs8 : m8 ≤ 200 := bare_le hl8 hb8 (by
        rw [hv8]
        refine sn_short (w := k) hk9 (by omega) (fun i hi => ?_)
        rw [HPP.out]
        exact (HP.out i (fun l hl => HF2.out l (by omega))).1)
      replace HV : Hid (Lim w8 Z2 a2 b2 us ∧ val us = ek g a S P j) := ⟨HV.out.1.below hB8, HV.out.2⟩
      replace HS5 := Lib.hid (HS5.out.trans (hB8.mono HS5.out.size))
      have HG : Hid (Lim w8 A8 m8 c8 gs ∧ val gs = sn (ek g a S P) (j + 1)) := ⟨hl8, hv8⟩
      have h9 := mul_any Z2 a2 b2 us A n c xs w8 HV.out.1 (HA.out.1.below HS5.out) (by omega) (by omega) (Or.inr (Or.inr (by
        rw [HV.out.2, HA.out.2.1]
        have := Hbb.out
        have := HA.out.2.2
        omega)))
      rw [HV.out.2, HA.out.2.1] at h9
      have H9 := Lib.hid h9
      clear h9 hl8 hb8 hv8 hB8 H8 HV Hbb hm8 H5
      go_wp2_with fail
      refine H9.out.mono ?_
      rintro e w9 ⟨A9, m9, c9, qs, rfl, hm9, hl9, hb9, hv9, hB9⟩
      replace HG : Hid (Lim w9 A8 m8 c8 gs ∧ val gs = sn (ek g a S P) (j + 1)) := ⟨HG.out.1.below hB9, HG.out.2⟩
      replace HS5 := Lib.hid (HS5.out.trans (hB9.mono HS5.out.size))
      have h10 := shalved_l g s A9 m9 c9 qs w9 hl9 (by omega) (by omega) (HT.out.below HS5.out)
      rw [hv9, HSS.out] at h10
      have H10 := Lib.hid h10
      clear h10 hl9 hb9 hv9 hB9 H9
      go_wp2_with fail
      refine H10.out.mono ?_
      rintro e w10 ⟨Aa, ma, ca, ks, rfl, hma, hla, hba, hva, hBa⟩
      replace HG : Hid (Lim w10 A8 m8 c8 gs ∧ val gs = sn (ek g a S P) (j + 1)) := ⟨HG.out.1.below hBa, HG.out.2⟩
      replace HS5 := Lib.hid (HS5.out.trans (hBa.mono HS5.out.size))
      have HM : Hid (Lim w10 Aa ma ca ks ∧ val ks = ov g (ek g a S P j * a) S) := ⟨hla, hva⟩
      have H11 := Lib.hid (of_any K (by omega) w10)
      clear hla hba hva hBa H10
      go_wp2_with fail
      refine H11.out.mono ?_
      rintro e w11 ⟨Ab, mb, cb, os, rfl, hmb, hlb, hbb, hvb, hBb⟩
      replace HG : Hid (Lim w11 A8 m8 c8 gs ∧ val gs = sn (ek g a S P) (j + 1)) := ⟨HG.out.1.below hBb, HG.out.2⟩
      replace HS5 := Lib.hid (HS5.out.trans (hBb.mono HS5.out.size))
      have h12 := sover_l g Aa ma ca ks Ab mb cb os w11 (HM.out.1.below hBb) hlb (by omega) (by omega) (by rw [hvb, HK.out]; omega) (HT.out.below HS5.out)
      rw [HM.out.2, hvb, HK.out] at h12
      have H12 : Hid (Calls Tryz.prog 106 #[.bool g, .slice Aa ma ca, .slice Ab mb cb] w11 (Tells w11 (ek g a S P (j + 1)) (ma + 2))) := h12
      clear h12 hlb hbb hvb hBb H11 HM HK
      go_wp2_with fail
      refine H12.out.mono ?_
      rintro e w12 ⟨Ac, mc, cc, fs, rfl, hmc, hlc, hbc, hvc, hBc⟩
      have hsc : mc ≤ 200 := bare_le hlc hbc (by
        rw [hvc]
        have := blen_tops (w := k) (by rw [HPP.out]; exact (HP.out (j + 1) HF2.out).1)
        omega)
      replace HG : Hid (Lim w12 A8 m8 c8 gs ∧ val gs = sn (ek g a S P) (j + 1)) := ⟨HG.out.1.below hBc, HG.out.2⟩
      replace HS5 := Lib.hid (HS5.out.trans (hBc.mono HS5.out.size))
      have HV2 : Hid (Lim w12 Ac mc cc fs ∧ val fs = ek g a S P (j + 1)) := ⟨hlc, hvc⟩
      clear hlc hbc hvc hBc H12
      go_wp2
      go_roundw
      case rel => exact ⟨j + 1, K2, m8, c8, mc, cc, A8, Ac, gs, fs, rfl, rfl, by first | rfl | (rw [eK]), hs8, hsc, HK2, hjk, hK29, HG, HV2, HF2, HS5⟩
      case measure => simp [intOf]; omega
    · have d1 : decide ((1 : Int) < (b : Int)) = false := decide_eq_false (by omega)
      have d2 : decide (1 < b) = false := decide_eq_false h1
      have hle : ek g a S P j ≤ 1 := by
        have h6 := lt_blen (ek g a S P j)
        have h7 : 2 ^ blen (ek g a S P j) ≤ 2 ^ 1 := Nat.pow_le_pow_right (by decide) (by omega)
        omega
      have Hfin : Hid (SumTold w (ek g a S P) (ek g a S P) (.returned (.tuple #[.slice Z1 a1 b1, .slice Z2 a2 b2])) w5) :=
        ⟨j, Z1, a1, b1, zs, Z2, a2, b2, us, rfl, ha1, ha2, HZ.out.1, HV.out.1, HS.out.trans (HS5.out.mono HS.out.size), by omega, hle, HF.out, HZ.out.2, HV.out.2⟩
      clear HZ HV HS HS5 HF HP HA HT htop hle hb h1 HK
      go_wp2_with fail
      refine H5.out.mono ?_
      rintro e w' ⟨rfl, rfl⟩
      go_wp2
      go_ret2
      exact Hfin.out
end Go.Proofs.YtijhdlkfihjbiaaGreatDoor
/- The walks of series.isScale, isThird, an edge's atanh and exp; series.Atanh, Ln2 and Exp: they meet the contracts that the laws ask. -/
namespace Go.Proofs.YtijhdlkfihjbiaaGreatDoor
open Go.RowKit

set_option maxHeartbeats 1000000 in
theorem sscale_l (s : Int) (v : Bool) (w : World) (hv : Hid (decide (8 ≤ s ∧ s ≤ 9000) = v)) :
    Calls Tryz.prog 58 #[.int .i64 s] w fun e w' => e = .returned (.bool v) ∧ w = w' := by
  by_cases h1 : 8 ≤ s
  · have d1 : decide ((8 : Int) ≤ s) = true := decide_eq_true h1
    have d2 : decide (s ≤ (9000 : Int)) = v := by
      rw [← hv.out]
      exact decide_eq_decide.2 ⟨fun h => ⟨h1, h⟩, fun h => h.2⟩
    clear hv h1
    go_enter Tryz.func58, Tryz.ntmps58
    go_wp2
    go_ret
    exact ⟨rfl, rfl⟩
  · have d1 : decide ((8 : Int) ≤ s) = false := decide_eq_false h1
    obtain rfl : v = false := by
      rw [← hv.out]
      exact decide_eq_false fun h => h1 h.1
    clear hv h1
    go_enter Tryz.func58, Tryz.ntmps58
    go_wp2
    go_ret
    exact ⟨rfl, rfl⟩

/-- A fraction that atanh tells of. -/
def Third (X Y : Nat) : Prop := blen X ≤ 4096 ∧ blen Y ≤ 4096 ∧ Y ≠ 0 ∧ 3 * X ≤ Y
instance (X Y : Nat) : Decidable (Third X Y) := by unfold Third; infer_instance

theorem tol_short (g : Bool) {S L b : Nat} (h : blen S ≤ b) (hL : L ≤ 1) : blen (tolN g S L) ≤ b + 2 := by
  refine blen_le_iff.2 ?_
  have h1 := blen_le_iff.1 h
  have h2 : tolN g S L ≤ (S + (if g then L + L else 0)) / 2 ^ 64 + 1 := ov_le g _ _
  have h3 := Nat.div_le_self (S + (if g then L + L else 0)) (2 ^ 64)
  have h4 : (if g then L + L else 0) ≤ 2 := by split <;> omega
  have h5 : 2 ^ (b + 2) = 2 ^ b * 4 := Nat.pow_add _ _ _
  have h6 := Nat.two_pow_pos b
  omega

/-- One end is told. -/
def EndTold (w : World) (Q : Nat → Prop) (e : Ending) (w' : World) : Prop := ∃ A m c zs, e = .returned (.slice A m c) ∧ m ≤ 250 ∧ Lim w' A m c zs ∧ Below w.heap.size w w' ∧ Q (val zs)

set_option maxHeartbeats 2000000 in
theorem satanh_l (g : Bool) (A : Option Addr) (n c : Nat) (xs : List Nat) (B : Option Addr) (m d : Nat) (ys : List Nat) (s : Nat) (w : World) (hA : Lim w A n c xs) (hB : Lim w B m d ys) (hn : n ≤ 70) (hm : m ≤ 70) (hT : Tab w) (h : Third (val xs) (val ys)) (hs : s ≤ 9001) :
    Calls Tryz.prog 71 #[.bool g, .slice A n c, .slice B m d, .int .i64 (s : Int)] w (EndTold w (AtV g (val xs) (val ys) s)) := by
  obtain ⟨k, hk⟩ : ∃ k, s + 64 = k := ⟨_, rfl⟩
  have ek : (s : Int) + 64 = (k : Int) := by omega
  have H1 := Lib.hid (sodds_l g A n c xs B m d ys k w hA hB hn hm hT h.2.2.1 h.2.2.2 h.1 h.2.1 (by omega))
  have HT := Lib.hid hT
  have HK := Lib.hid hk
  have hs9 : k ≤ 9100 := by omega
  clear hA hB hT h hk
  go_enter Tryz.func71, Tryz.ntmps71
  go_wp2_with fail
  refine H1.out.mono ?_
  rintro e w1 ⟨q, A1, m1, c1, zs, A2, m2, c2, us, rfl, hm1, hm2, hl1, hl2, hB1, hq, hp1, hp2, hv1, hv2⟩
  have h2 := stold_l g _ _ A1 m1 c1 zs A2 m2 c2 us w1 hl1 hl2 (by omega) (by omega) (HT.out.below hB1) hv1 hv2
  have H2 := Lib.hid h2
  have HS := Lib.hid hB1
  have HQ : Hid (pk g (val xs * val xs) (val ys * val ys) (ov g (val xs * 2 ^ k) (val ys)) q ≤ 1 ∧ (∀ j, j < q → 1 < pk g (val xs * val xs) (val ys * val ys) (ov g (val xs * 2 ^ k) (val ys)) j)) := ⟨hp1, hp2⟩
  have HZ : Hid (blen (sn (tk1 g (val xs * val xs) (val ys * val ys) (ov g (val xs * 2 ^ k) (val ys))) q) ≤ 64 * 200) := by
    show _ ≤ _
    rw [← hv1]
    have := hl1.blen_le
    omega
  clear h2 hl1 hl2 hB1 hp1 hp2 hv1 hv2 H1 HT
  go_wp2_with fail
  refine H2.out.mono ?_
  rintro e w2 ⟨A3, m3, c3, ts, rfl, hm3, hl3, hb3, hv3, hB3⟩
  have hm9 : m3 ≤ 250 := bare_le hl3 hb3 (by
    rw [hv3]
    have := tol_short g HZ.out HQ.out.1
    omega)
  have Hfin : Hid (EndTold w (AtV g (val xs) (val ys) s) (.returned (.slice A3 m3 c3)) w2) := by
    refine ⟨A3, m3, c3, ts, rfl, hm9, hl3, HS.out.trans (hB3.mono HS.out.size), q, hq, ?_⟩
    rw [HK.out]
    exact ⟨HQ.out.1, HQ.out.2, hv3⟩
  clear hl3 hb3 hv3 hB3 H2 HS HQ HZ HK
  go_wp2
  go_ret
  exact Hfin.out

set_option maxHeartbeats 2000000 in
theorem sexp_l (g : Bool) (A : Option Addr) (n c : Nat) (xs : List Nat) (s : Nat) (w : World) (hA : Lim w A n c xs) (hn : n ≤ 150) (hT : Tab w) (ha : val xs ≤ 2 ^ s) (hs : s ≤ 9000) :
    Calls Tryz.prog 60 #[.bool g, .slice A n c, .int .i64 (s : Int)] w (EndTold w (ExV g (val xs) s)) := by
  obtain ⟨k, hk⟩ : ∃ k, s + 64 = k := ⟨_, rfl⟩
  have ek1 : (s : Int) + 64 = (k : Int) := by omega
  obtain ⟨X, hX⟩ : ∃ X, val xs = X := ⟨_, rfl⟩
  have h1 := bare_any A n c xs w hA (by omega)
  rw [hX] at h1 ha ⊢
  have H1 := Lib.hid h1
  have HT := Lib.hid hT
  have HK : Hid (s + 64 = k ∧ X ≤ 2 ^ s) := ⟨hk, ha⟩
  have hs9 : k ≤ 9100 := by omega
  clear hA hT h1 hk ha hX
  go_enter Tryz.func60, Tryz.ntmps60
  go_wp2_with fail
  refine H1.out.mono ?_
  rintro e w0 ⟨A0, m0, c0, fs, rfl, hm0, hl0, hb0, hv0, hB0⟩
  have H9 := Lib.hid (spowers_l g X s k A0 m0 c0 fs w0 hl0 (by omega) (HT.out.below hB0) hv0 HK.out.2 hs HK.out.1)
  have HS := Lib.hid hB0
  replace HT := Lib.hid (HT.out.below hB0)
  clear hl0 hb0 hv0 hB0 H1
  go_wp2_with fail
  refine H9.out.mono ?_
  rintro e w1 ⟨q, A1, m1, c1, zs, A2, m2, c2, us, rfl, hm1, hm2, hl1, hl2, hB1, hq, hp1, hp2, hv1, hv2⟩
  have h2 := stold_l g _ _ A1 m1 c1 zs A2 m2 c2 us w1 hl1 hl2 (by omega) (by omega) (HT.out.below hB1) hv1 hv2
  have H2 := Lib.hid h2
  replace HS := Lib.hid (HS.out.trans (hB1.mono HS.out.size))
  have hq1 : 1 ≤ q := Nat.pos_of_ne_zero fun h0 => by
    rw [h0] at hp1
    have h5 : 2 ^ s * 2 ^ 64 ≤ 1 := hp1
    have h6 := Nat.two_pow_pos s
    omega
  have HQ : Hid (ek g X (2 ^ s) (2 ^ s * 2 ^ 64) q ≤ 1 ∧ (∀ j, j < q → 1 < ek g X (2 ^ s) (2 ^ s * 2 ^ 64) j)) := ⟨hp1, hp2⟩
  have HZ : Hid (blen (sn (ek g X (2 ^ s) (2 ^ s * 2 ^ 64)) q) ≤ 64 * 200) := by
    show _ ≤ _
    rw [← hv1]
    have := hl1.blen_le
    omega
  clear h2 hl1 hl2 hB1 hp1 hp2 hv1 hv2 H9 HT HK
  go_wp2_with fail
  refine H2.out.mono ?_
  rintro e w2 ⟨A3, m3, c3, ts, rfl, hm3, hl3, hb3, hv3, hB3⟩
  have hm9 : m3 ≤ 250 := bare_le hl3 hb3 (by
    rw [hv3]
    have := tol_short g HZ.out HQ.out.1
    omega)
  have Hfin : Hid (EndTold w (ExV g X s) (.returned (.slice A3 m3 c3)) w2) :=
    ⟨A3, m3, c3, ts, rfl, hm9, hl3, HS.out.trans (hB3.mono HS.out.size), q, hq1, hq, HQ.out.1, HQ.out.2, hv3⟩
  clear hl3 hb3 hv3 hB3 H2 HS HQ HZ
  go_wp2
  go_ret
  exact Hfin.out

/-- What is refused. -/
theorem told_no {w w' : World} {Q : Nat → Nat → Nat → Nat → Int → Prop} (hb : Below w.heap.size w w') (hq : Q 0 0 0 0 1) : TwoTold w Q (.returned (.tuple #[.slice none 0 0, .slice none 0 0, .int .i64 1])) w' :=
  ⟨none, 0, 0, [], none, 0, 0, [], 1, rfl, by decide, by decide, Lim.nil _ _ _, Lim.nil _ _ _, hb, hq⟩


set_option maxHeartbeats 2000000 in
theorem ln2_meets : Ln2Meets := by
  intro s w hT hs1 hs2
  obtain ⟨v, hv⟩ : ∃ v, decide (8 ≤ s ∧ s ≤ 9000) = v := ⟨_, rfl⟩
  have H1 := Lib.hid (sscale_l s v w hv)
  cases v with
  | false =>
    have Hfin : Hid (¬ (8 ≤ s ∧ s ≤ 9000)) := of_decide_eq_false hv
    clear hT hs1 hs2 hv
    go_enter Tryz.func35, Tryz.ntmps35
    go_wp2_with fail
    refine H1.out.mono ?_
    rintro e w' ⟨rfl, rfl⟩
    clear H1
    go_wp2
    go_ret3
    exact told_no (Below.refl _ _) (Or.inr ⟨Hfin.out, rfl, rfl, rfl⟩)
  | true =>
    have hsc := of_decide_eq_true hv
    obtain ⟨k, rfl⟩ := Int.eq_ofNat_of_zero_le (show 0 ≤ s by omega)
    obtain ⟨k1, hk1⟩ : ∃ k1, k + 1 = k1 := ⟨_, rfl⟩
    have ek1 : (k : Int) + 1 = (k1 : Int) := by omega
    have hk9 : k1 ≤ 9001 := by omega
    have HE : Hid (∀ g u A1 m1 c1 zs A2 m2 c2 us, Tab u → Lim u A1 m1 c1 zs → Lim u A2 m2 c2 us → val zs = 1 → val us = 3 → m1 ≤ 1 → m2 ≤ 1 → Calls Tryz.prog 71 #[.bool g, .slice A1 m1 c1, .slice A2 m2 c2, .int .i64 (k1 : Int)] u (EndTold u (AtV g 1 3 k1))) := fun g u A1 m1 c1 zs A2 m2 c2 us g1 g2 g3 g4 g5 g6 g7 => by
      have h := satanh_l g A1 m1 c1 zs A2 m2 c2 us k1 u g2 g3 (by omega) (by omega) g1 (by rw [g4, g5]; exact ⟨by decide, by decide, by decide, by decide⟩) hk9
      rw [g4, g5] at h
      exact h
    have HQ : Hid ((8 ≤ (k : Int) ∧ (k : Int) ≤ 9000) ∧ ∀ lo hi, AtV false 1 3 k1 lo → AtV true 1 3 k1 hi → Ln2B k lo hi ∧ lo ≤ hi ∧ hi ≤ lo + 2) :=
      ⟨hsc, fun lo hi g1 g2 => by rw [← hk1] at g1 g2; exact ln2_both g1 g2⟩
    have HO1 := Lib.hid (of_any 1 (by decide) w)
    have HT := Lib.hid hT
    clear hT hs1 hs2 hv hsc hk1
    go_enter Tryz.func35, Tryz.ntmps35
    go_wp2_with fail
    refine H1.out.mono ?_
    rintro e w' ⟨rfl, rfl⟩
    go_wp2_with fail
    refine HO1.out.mono ?_
    rintro e w1 ⟨A1, m1, c1, zs, rfl, hm1, hl1, hb1, hv1, hB1⟩
    have HS := Lib.hid hB1
    have HO2 := Lib.hid (of_any 3 (by decide) w1)
    have HA : Hid (Lim w1 A1 m1 c1 zs ∧ val zs = 1) := ⟨hl1, hv1⟩
    clear hl1 hb1 hv1 hB1 HO1 H1
    go_wp2_with fail
    refine HO2.out.mono ?_
    rintro e w2 ⟨A2, m2, c2, us, rfl, hm2, hl2, hb2, hv2, hB2⟩
    replace HS := Lib.hid (HS.out.trans (hB2.mono HS.out.size))
    replace HA : Hid (Lim w2 A1 m1 c1 zs ∧ val zs = 1) := ⟨HA.out.1.below hB2, HA.out.2⟩
    have HB : Hid (Lim w2 A2 m2 c2 us ∧ val us = 3) := ⟨hl2, hv2⟩
    have H3 := Lib.hid (HE.out false w2 A1 m1 c1 zs A2 m2 c2 us (HT.out.below HS.out) HA.out.1 HB.out.1 HA.out.2 HB.out.2 hm1 hm2)
    clear hl2 hb2 hv2 hB2 HO2
    go_wp2_with fail
    refine H3.out.mono ?_
    rintro e w3 ⟨A3, m3, c3, ts, rfl, hm3, hl3, hB3, hq3⟩
    replace HS := Lib.hid (HS.out.trans (hB3.mono HS.out.size))
    have H4 := Lib.hid (HE.out true w3 A1 m1 c1 zs A2 m2 c2 us (HT.out.below HS.out) (HA.out.1.below hB3) (HB.out.1.below hB3) HA.out.2 HB.out.2 hm1 hm2)
    have HL : Hid (Lim w3 A3 m3 c3 ts ∧ AtV false 1 3 k1 (val ts)) := ⟨hl3, hq3⟩
    clear H3 hl3 hB3 hq3 HE HA HB HT
    go_wp2_with fail
    refine H4.out.mono ?_
    rintro e w4 ⟨A4, m4, c4, vs, rfl, hm4, hl4, hB4, hq4⟩
    have Hfin : Hid (TwoTold w (fun m1 lo m2 hi r => ((8 ≤ (k : Int) ∧ (k : Int) ≤ 9000) ∧ r = 0 ∧ Ln2B (k : Int).toNat lo hi ∧ lo ≤ hi ∧ hi - lo ≤ 2 * (k : Int).toNat + 128) ∨ (¬ (8 ≤ (k : Int) ∧ (k : Int) ≤ 9000) ∧ r = 1 ∧ m1 = 0 ∧ m2 = 0)) (.returned (.tuple #[.slice A3 m3 c3, .slice A4 m4 c4, .int .i64 0])) w4) := by
      obtain ⟨g1, g2, g3⟩ := HQ.out.2 _ _ HL.out.2 hq4
      exact ⟨A3, m3, c3, ts, A4, m4, c4, vs, 0, rfl, hm3, hm4, HL.out.1.below hB4, hl4, HS.out.trans (hB4.mono HS.out.size), Or.inl ⟨HQ.out.1, rfl, g1, g2, by omega⟩⟩
    clear H4 HL HS HQ hl4 hB4 hq4
    go_wp2
    go_ret3
    exact Hfin.out

end Go.Proofs.YtijhdlkfihjbiaaGreatDoor
/- The walks of planimeterlaw12.alive, wide and holds. -/
namespace Go.Proofs.YtijhdlkfihjbiaaGreatDoor
open Go.RowKit

theorem cmpZ_down {x y : Nat} (h : x ≤ y) : cmpZ x y ≤ 0 := by
  rcases Nat.lt_or_eq_of_le h with h | h
  · rw [cmpZ_lt h]; decide
  · rw [cmpZ_eq h]; decide
theorem cmpZ_up {x y : Nat} (h : y ≤ x) : 0 ≤ cmpZ x y := by
  rcases Nat.lt_or_eq_of_le h with h | h
  · rw [cmpZ_gt h]; decide
  · rw [cmpZ_eq h.symm]; decide

end Go.Proofs.YtijhdlkfihjbiaaGreatDoor
/- The document's To of layer 5 of any number, 0 among them. -/
namespace Go.Proofs.YtijhdlkfihjbiaaGreatDoor
open Go.RowKit



end Go.Proofs.YtijhdlkfihjbiaaGreatDoor
/- What the law SeriesScales rests on: the contract of series.Within; an interval in its block. -/
namespace Go.Proofs.YtijhdlkfihjbiaaGreatDoor
open Go.RowKit

/-- What Within tells: both ends as dyads. -/
def WithTold (w : World) (g : Bool) (V U : Nat) (s : Int) (e : Ending) (w' : World) : Prop := ∃ g1 A1 m1 c1 zs e1 g2 A2 m2 c2 us e2, e = .returned (.agg #[.bool g1, .slice A1 m1 c1, .int .i64 e1, .bool g2, .slice A2 m2 c2, .int .i64 e2]) ∧ m1 ≤ 300 ∧ m2 ≤ 300 ∧ Lim w' A1 m1 c1 zs ∧ Lim w' A2 m2 c2 us ∧ Bare zs ∧ Bare us ∧ Below w.heap.size w w' ∧
    mk g V (-s) = some ⟨g1, val zs, e1⟩ ∧ mk g U (-s) = some ⟨g2, val us, e2⟩
/-- The contract of series.Within: the lesser one ahead. -/
def WithinMeets : Prop := ∀ (A : Option Addr) (n c : Nat) (xs : List Nat) (B : Option Addr) (m d : Nat) (ys : List Nat) (s : Int) (g : Bool) (w : World), Lim w A n c xs → Lim w B m d ys → n ≤ 250 → m ≤ 250 → Tab w → 8 ≤ s → s ≤ 9000 → val xs ≤ val ys →
  Calls Tryz.prog 24 #[.slice A n c, .slice B m d, .int .i64 s, .bool g] w (WithTold w g (val (if g then ys else xs)) (val (if g then xs else ys)) s)

/-- An interval in its block. -/
def Ib (w : World) (b : Nat) (g1 : Bool) (A1 : Option Addr) (m1 c1 : Nat) (e1 : Int) (g2 : Bool) (A2 : Option Addr) (m2 c2 : Nat) (e2 : Int) : Prop :=
  w.heap[b]? = some (.cells #[.bool g1, .slice A1 m1 c1, .int .i64 e1, .bool g2, .slice A2 m2 c2, .int .i64 e2] 34)
section
variable {w w' : World} {b : Nat} {g1 : Bool} {A1 : Option Addr} {m1 c1 : Nat} {e1 : Int} {g2 : Bool} {A2 : Option Addr} {m2 c2 : Nat} {e2 : Int}
theorem Ib.lt (h : Ib w b g1 A1 m1 c1 e1 g2 A2 m2 c2 e2) : b < w.heap.size := by
  rcases Nat.lt_or_ge b w.heap.size with h' | h'
  · exact h'
  · rw [Ib, Array.getElem?_eq_none h'] at h; cases h
theorem Ib.new (w : World) (g1 : Bool) (A1 : Option Addr) (m1 c1 : Nat) (e1 : Int) (g2 : Bool) (A2 : Option Addr) (m2 c2 : Nat) (e2 : Int) : Ib (w.alloc (.cells #[.bool g1, .slice A1 m1 c1, .int .i64 e1, .bool g2, .slice A2 m2 c2, .int .i64 e2] 34)) w.heap.size g1 A1 m1 c1 e1 g2 A2 m2 c2 e2 := by
  show (w.heap.push _)[w.heap.size]? = _
  simp
theorem Ib.below (h : Ib w b g1 A1 m1 c1 e1 g2 A2 m2 c2 e2) (hb : Below w.heap.size w w') : Ib w' b g1 A1 m1 c1 e1 g2 A2 m2 c2 e2 := by
  rw [Ib, hb.block b h.lt]; exact h
theorem Ib.x0 (h : Ib w b g1 A1 m1 c1 e1 g2 A2 m2 c2 e2) : w.cell? ⟨b, 0, none⟩ = some (.bool g1) := by simp [World.cell?, show w.heap[b]? = _ from h]
theorem Ib.x1 (h : Ib w b g1 A1 m1 c1 e1 g2 A2 m2 c2 e2) : w.cell? ⟨b, 1, none⟩ = some (.slice A1 m1 c1) := by simp [World.cell?, show w.heap[b]? = _ from h]
theorem Ib.x2 (h : Ib w b g1 A1 m1 c1 e1 g2 A2 m2 c2 e2) : w.cell? ⟨b, 2, none⟩ = some (.int .i64 e1) := by simp [World.cell?, show w.heap[b]? = _ from h]
theorem Ib.x3 (h : Ib w b g1 A1 m1 c1 e1 g2 A2 m2 c2 e2) : w.cell? ⟨b, 3, none⟩ = some (.bool g2) := by simp [World.cell?, show w.heap[b]? = _ from h]
theorem Ib.x4 (h : Ib w b g1 A1 m1 c1 e1 g2 A2 m2 c2 e2) : w.cell? ⟨b, 4, none⟩ = some (.slice A2 m2 c2) := by simp [World.cell?, show w.heap[b]? = _ from h]
theorem Ib.x5 (h : Ib w b g1 A1 m1 c1 e1 g2 A2 m2 c2 e2) : w.cell? ⟨b, 5, none⟩ = some (.int .i64 e2) := by simp [World.cell?, show w.heap[b]? = _ from h]
end

theorem sz_le {a b : Nat} (h : a ≤ b) (e : Int) : sz a e ≤ sz b e := Nat.mul_le_mul_right _ h
/-- In order. -/
theorem within_ord {g : Bool} {a b : Nat} {E : Int} {d1 d2 : Dy} (hab : a ≤ b) (h1 : mk g (if g then b else a) E = some d1) (h2 : mk g (if g then a else b) E = some d2) : cmpI (dw d1.neg d1.V d1.e) (dw d2.neg d2.V d2.e) ≤ 0 := by
  rw [(mk_fine h1).2.1, (mk_fine h2).2.1]
  have hs := sz_le hab E
  have : dw g (if g then b else a) E ≤ dw g (if g then a else b) E := by
    cases g
    · show ((sz a E : Nat) : Int) ≤ (sz b E : Int)
      omega
    · show -((sz b E : Nat) : Int) ≤ -(sz a E : Int)
      omega
  rcases Int.lt_or_eq_of_le this with h | h
  · rw [cmpI_lt h]; decide
  · rw [cmpI_eq h]; decide
end Go.Proofs.YtijhdlkfihjbiaaGreatDoor
/- The walk of series.Within. -/
namespace Go.Proofs.YtijhdlkfihjbiaaGreatDoor
open Go.RowKit

/-- An interval laid into block b. -/
abbrev World.put6 (w : World) (b : Nat) (g1 : Bool) (A1 : Option Addr) (n1 c1 : Nat) (e1 : Int) (g2 : Bool) (A2 : Option Addr) (n2 c2 : Nat) (e2 : Int) : World :=
  (((((w.setCell ⟨b, 0, none⟩ (.bool g1)).setCell ⟨b, 1, none⟩ (.slice A1 n1 c1)).setCell ⟨b, 2, none⟩ (.int .i64 e1)).setCell ⟨b, 3, none⟩ (.bool g2)).setCell ⟨b, 4, none⟩ (.slice A2 n2 c2)).setCell ⟨b, 5, none⟩ (.int .i64 e2)
theorem put6_heap (w : World) (b : Nat) (g1 : Bool) (A1 : Option Addr) (n1 c1 : Nat) (e1 : Int) (g2 : Bool) (A2 : Option Addr) (n2 c2 : Nat) (e2 : Int) (k : Nat) (hk : k ≠ b) : (World.put6 w b g1 A1 n1 c1 e1 g2 A2 n2 c2 e2).heap[k]? = w.heap[k]? := by
  unfold World.put6
  rw [Below.heap_setCell _ _ _ _ hk, Below.heap_setCell _ _ _ _ hk, Below.heap_setCell _ _ _ _ hk, Below.heap_setCell _ _ _ _ hk, Below.heap_setCell _ _ _ _ hk, Below.heap_setCell _ _ _ _ hk]
theorem put6_size (w : World) (b : Nat) (g1 : Bool) (A1 : Option Addr) (n1 c1 : Nat) (e1 : Int) (g2 : Bool) (A2 : Option Addr) (n2 c2 : Nat) (e2 : Int) : (World.put6 w b g1 A1 n1 c1 e1 g2 A2 n2 c2 e2).heap.size = w.heap.size := by
  simp [World.put6, World.setCell]
theorem put6_cell (w : World) (b : Nat) (g1 : Bool) (A1 : Option Addr) (n1 c1 : Nat) (e1 : Int) (g2 : Bool) (A2 : Option Addr) (n2 c2 : Nat) (e2 : Int) (p : Addr) (hp : p.block ≠ b) : (World.put6 w b g1 A1 n1 c1 e1 g2 A2 n2 c2 e2).cell? p = w.cell? p :=
  World.cell?_of_block (w := w) (put6_heap w b g1 A1 n1 c1 e1 g2 A2 n2 c2 e2 p.block hp)
theorem below_put6 {B : Nat} {a w : World} (h : Below B a w) {b : Nat} (hb : B ≤ b) (g1 : Bool) (A1 : Option Addr) (n1 c1 : Nat) (e1 : Int) (g2 : Bool) (A2 : Option Addr) (n2 c2 : Nat) (e2 : Int) : Below B a (World.put6 w b g1 A1 n1 c1 e1 g2 A2 n2 c2 e2) :=
  (((((h.setCell (p := ⟨b, 0, none⟩) hb _).setCell (p := ⟨b, 1, none⟩) hb _).setCell (p := ⟨b, 2, none⟩) hb _).setCell (p := ⟨b, 3, none⟩) hb _).setCell (p := ⟨b, 4, none⟩) hb _).setCell (p := ⟨b, 5, none⟩) hb _
section
variable {w : World} {b : Nat} {g1 : Bool} {A1 : Option Addr} {n1 c1 : Nat} {e1 : Int} {g2 : Bool} {A2 : Option Addr} {n2 c2 : Nat} {e2 : Int}
theorem Ib.fz (h : Ib w b g1 A1 n1 c1 e1 g2 A2 n2 c2 e2) (o : Nat) : w.frozen? ⟨b, o, none⟩ = false := by simp [World.frozen?, show w.heap[b]? = _ from h]
theorem Ib.not (h : Ib w b g1 A1 n1 c1 e1 g2 A2 n2 c2 e2) {o : Nat} {k : IntKind} {z : Int} (hc : w.cell? ⟨b, o, none⟩ = some (.int k z)) : k = .i64 := by
  simp only [World.cell?, show w.heap[b]? = _ from h] at hc
  rcases o with _ | _ | _ | _ | _ | _ | o
  · simp at hc
  · simp at hc
  · simp at hc; exact hc.1.symm
  · simp at hc
  · simp at hc
  · simp at hc; exact hc.1.symm
  · simp at hc
theorem Ib.put (h : Ib w b g1 A1 n1 c1 e1 g2 A2 n2 c2 e2) (g1' : Bool) (A1' : Option Addr) (n1' c1' : Nat) (e1' : Int) (g2' : Bool) (A2' : Option Addr) (n2' c2' : Nat) (e2' : Int) : Ib (World.put6 w b g1' A1' n1' c1' e1' g2' A2' n2' c2' e2') b g1' A1' n1' c1' e1' g2' A2' n2' c2' e2' := by
  unfold Ib at h ⊢
  unfold World.put6
  simp [World.setCell, Array.getElem?_modify, h]
/-- A list isn't in such a block. -/
theorem Ib.lim (h : Ib w b g1 A1 n1 c1 e1 g2 A2 n2 c2 e2) {A : Option Addr} {n c : Nat} {xs : List Nat} (hA : Lim w A n c xs) (g1' : Bool) (A1' : Option Addr) (n1' c1' : Nat) (e1' : Int) (g2' : Bool) (A2' : Option Addr) (n2' c2' : Nat) (e2' : Int) : Lim (World.put6 w b g1' A1' n1' c1' e1' g2' A2' n2' c2' e2') A n c xs :=
  ⟨hA.1, hA.2.1, hA.2.2.1, fun hn => by
    obtain ⟨k, o, ek, hk, hc⟩ := hA.at_ hn
    have hne : k ≠ b := by
      rintro rfl
      have := h.not (hc 0 hn)
      cases this
    exact ⟨k, o, ek, by rw [put6_size]; exact hk, fun j hj => by rw [put6_cell _ _ _ _ _ _ _ _ _ _ _ _ _ hne]; exact hc j hj⟩⟩
/-- Another block is a dyad's. -/
theorem Ib.other (h : Ib w b g1 A1 n1 c1 e1 g2 A2 n2 c2 e2) {b' : Nat} (hb : b ≠ b') (g' : Bool) (A' : Option Addr) (n' c' : Nat) (e' : Int) : Ib (World.put w b' g' A' n' c' e') b g1 A1 n1 c1 e1 g2 A2 n2 c2 e2 := by
  unfold Ib; rw [put_heap _ _ _ _ _ _ _ _ hb]; exact h
end

/-- So short a number, so near to 0, is a dyad. -/
theorem mk_near {g : Bool} {V : Nat} {e : Int} (h : blen V ≤ 20000) (h1 : -9000 ≤ e) (h2 : e ≤ 0) : ∃ d, mk g V e = some d := by
  unfold mk toldD
  rw [held_id (by omega) (by omega)]
  have := low_le_blen V
  split
  · exact ⟨_, rfl⟩
  · rw [if_neg (by omega)]
    exact ⟨_, rfl⟩

/-- The result's block, both dyads in blocks of their own, their lists. -/
def HoldB2 (w : World) (p1 : Nat) (g1 : Bool) (A1 : Option Addr) (m1 c1 : Nat) (zs : List Nat) (E1 : Int) (p2 : Nat) (g2 : Bool) (A2 : Option Addr) (m2 c2 : Nat) (us : List Nat) (E2 : Int) (u : World) : Prop :=
  Ib u w.heap.size false none 0 0 0 false none 0 0 0 ∧ Bd u p1 32 g1 A1 m1 c1 E1 ∧ Bd u p2 32 g2 A2 m2 c2 E2 ∧ Lim u A1 m1 c1 zs ∧ Lim u A2 m2 c2 us ∧ Tab u ∧ Below w.heap.size w u ∧ w.heap.size < p1 ∧ p1 < p2
section
variable {w : World} {p1 : Nat} {g1 : Bool} {A1 : Option Addr} {m1 c1 : Nat} {zs : List Nat} {E1 : Int} {p2 : Nat} {g2 : Bool} {A2 : Option Addr} {m2 c2 : Nat} {us : List Nat} {E2 : Int} {u u' : World}
theorem HoldB2.below (h : HoldB2 w p1 g1 A1 m1 c1 zs E1 p2 g2 A2 m2 c2 us E2 u) (hb : Below u.heap.size u u') : HoldB2 w p1 g1 A1 m1 c1 zs E1 p2 g2 A2 m2 c2 us E2 u' :=
  ⟨h.1.below hb, h.2.1.below hb, h.2.2.1.below hb, h.2.2.2.1.below hb, h.2.2.2.2.1.below hb, h.2.2.2.2.2.1.below hb, h.2.2.2.2.2.2.1.trans (hb.mono h.2.2.2.2.2.2.1.size), h.2.2.2.2.2.2.2⟩
theorem HoldB2.swap (h : HoldB2 w p1 g1 A1 m1 c1 zs E1 p2 g2 A2 m2 c2 us E2 u) : HoldB2 w p1 g2 A2 m2 c2 us E2 p2 g1 A1 m1 c1 zs E1 (World.put (World.put u p1 g2 A2 m2 c2 E2) p2 g1 A1 m1 c1 E1) := by
  obtain ⟨k1, k2, k3, k4, k5, k6, k7, k8, k9⟩ := h
  have j3 := k3.other (Nat.ne_of_gt k9) g2 A2 m2 c2 E2
  refine ⟨(k1.other (Nat.ne_of_lt k8) _ _ _ _ _).other (by omega) _ _ _ _ _, (k2.put _ _ _ _ _).other (Nat.ne_of_lt k9) _ _ _ _ _, j3.put _ _ _ _ _, j3.lim (k2.lim k5 _ _ _ _ _) _ _ _ _ _, j3.lim (k2.lim k4 _ _ _ _ _) _ _ _ _ _, j3.tab (k2.tab k6 _ _ _ _ _) _ _ _ _ _, ?_, k8, k9⟩
  exact below_put (below_put k7 (by omega) _ _ _ _ _) (by omega) _ _ _ _ _
end

/-- What Within tells, as it is handed back. -/
theorem with_out {w u : World} {p1 : Nat} {g1 : Bool} {A1 : Option Addr} {m1 c1 : Nat} {zs : List Nat} {E1 : Int} {p2 : Nat} {g2 : Bool} {A2 : Option Addr} {m2 c2 : Nat} {us : List Nat} {E2 : Int} {g : Bool} {V U : Nat} {s : Int}
    (h : HoldB2 w p1 g1 A1 m1 c1 zs E1 p2 g2 A2 m2 c2 us E2 u) (hm1 : m1 ≤ 300) (hm2 : m2 ≤ 300) (hb1 : Bare zs) (hb2 : Bare us) (h1 : mk g V (-s) = some ⟨g1, val zs, E1⟩) (h2 : mk g U (-s) = some ⟨g2, val us, E2⟩) :
    WithTold w g V U s (.returned (.agg #[.bool g1, .slice A1 m1 c1, .int .i64 E1, .bool g2, .slice A2 m2 c2, .int .i64 E2])) (World.put6 u w.heap.size g1 A1 m1 c1 E1 g2 A2 m2 c2 E2) :=
  ⟨g1, A1, m1, c1, zs, E1, g2, A2, m2, c2, us, E2, rfl, hm1, hm2, h.1.lim h.2.2.2.1 _ _ _ _ _ _ _ _ _ _, h.1.lim h.2.2.2.2.1 _ _ _ _ _ _ _ _ _ _, hb1, hb2, below_put6 h.2.2.2.2.2.2.1 (Nat.le_refl _) _ _ _ _ _ _ _ _ _ _, h1, h2⟩

/-- Both dyads in order, as the laws want them. -/
def SortedB (w : World) (p1 p2 : Nat) (g : Bool) (V U : Nat) (s : Int) (u : World) : Prop :=
  ∃ g1 A1 m1 c1 zs E1 g2 A2 m2 c2 us E2, HoldB2 w p1 g1 A1 m1 c1 zs E1 p2 g2 A2 m2 c2 us E2 u ∧ m1 ≤ 300 ∧ m2 ≤ 300 ∧ Bare zs ∧ Bare us ∧ mk g V (-s) = some ⟨g1, val zs, E1⟩ ∧ mk g U (-s) = some ⟨g2, val us, E2⟩

/-- Of two in order, both below 0, and told to be in order: they are one. -/
theorem with_same {X Y : Nat} {e : Int} {d1 d2 : Dy} (h1 : mk true X e = some d1) (h2 : mk true Y e = some d2) (hXY : X ≤ Y) (h : cmpI (dw d1.neg d1.V d1.e) (dw d2.neg d2.V d2.e) ≤ 0) : X = Y := by
  rw [(mk_fine h1).2.1, (mk_fine h2).2.1] at h
  rcases Nat.lt_or_eq_of_le hXY with hlt | he
  · exfalso
    have h3 : sz X e < sz Y e := Nat.mul_lt_mul_of_pos_right hlt (Nat.two_pow_pos _)
    have h4 : dw true Y e < dw true X e := by
      show -(sz Y e : Int) < -(sz X e : Int)
      omega
    rw [cmpI_gt h4] at h
    exact absurd h (by decide)
  · exact he

set_option maxHeartbeats 1000000 in
set_option maxRecDepth 20000 in
theorem within_meets : WithinMeets := by
  intro A n c xs B m d ys s g w hA hB hn hm hT hs1 hs2 hle
  have a1 := below1 w (.cells #[.bool false, .slice none 0 0, .int .i64 0, .bool false, .slice none 0 0, .int .i64 0] 34)
  have i1 := Ib.new w false none 0 0 0 false none 0 0 0
  have hbx := hA.blen_le
  have hby := hB.blen_le
  obtain ⟨d1, hd1⟩ := mk_near (g := g) (V := val xs) (e := -s) (by omega) (by omega) (by omega)
  obtain ⟨d2, hd2⟩ := mk_near (g := g) (V := val ys) (e := -s) (by omega) (by omega) (by omega)
  have h1 := make_any g A n c xs (-s) _ (hA.below a1) (by omega) (hT.below a1)
  rw [hd1] at h1
  have H1 := Lib.hid h1
  have HI := Lib.hid i1
  have HS := Lib.hid a1
  have H2 : Hid (∀ u, Below w.heap.size w u → Calls Tryz.prog 48 #[.bool g, .slice B m d, .int .i64 (-s)] u (Told u (some d2) m)) := fun u hu => by
    have h := make_any g B m d ys (-s) u (hB.below hu) (by omega) (hT.below hu)
    rw [hd2] at h
    exact h
  have HT := Lib.hid hT
  have HD : Hid (mk g (val xs) (-s) = some d1 ∧ mk g (val ys) (-s) = some d2 ∧ val xs ≤ val ys) := ⟨hd1, hd2, hle⟩
  have e1 : max s (-2147483648) = s := by omega
  obtain ⟨V, hVV⟩ : ∃ V, val (if g = true then ys else xs) = V := ⟨_, rfl⟩
  obtain ⟨U, hUU⟩ : ∃ U, val (if g = true then xs else ys) = U := ⟨_, rfl⟩
  rw [hVV, hUU]
  have HVU : Hid (val (if g = true then ys else xs) = V ∧ val (if g = true then xs else ys) = U) := ⟨hVV, hUU⟩
  clear hVV hUU
  clear a1 i1 h1 hA hB hT hd1 hd2 hle hbx hby
  go_enter Tryz.func24, Tryz.ntmps24
  go_wp2_with fail
  refine H1.out.mono ?_
  rintro e w1 ⟨g1, A1, m1, c1, zs, E1, r1, rfl, hm1, hl1, hb1, his1, hB1⟩
  obtain ⟨rfl, hg1, hV1, hE1⟩ := his1
  have hs1' := HS.out.trans (hB1.mono HS.out.size)
  have a2 := below1 w1 (.cells #[.bool g1, .slice A1 m1 c1, .int .i64 E1] 32)
  have HB1 : Hid (Bd (w1.alloc (.cells #[.bool g1, .slice A1 m1 c1, .int .i64 E1] 32)) w1.heap.size 32 g1 A1 m1 c1 E1) := Bd.new _ _ _ _ _ _ _
  have hlt1 : w.heap.size < w1.heap.size := (HI.out.below hB1).lt
  have HL1 := Lib.hid (hl1.below a2)
  have HE1 : Hid (Bare zs ∧ d1 = ⟨g1, val zs, E1⟩) := ⟨hb1, by rw [hg1, hV1, hE1]⟩
  replace HI := Lib.hid ((HI.out.below hB1).below a2)
  replace HS := Lib.hid (hs1'.trans (a2.mono hs1'.size))
  have H3 := Lib.hid (H2.out _ HS.out)
  have Hlt1 := Lib.hid hlt1
  clear hl1 hb1 hg1 hV1 hE1 hB1 H1 H2 hs1' a2 hlt1
  go_wp2_with fail
  refine H3.out.mono ?_
  rintro e w2 ⟨g2, A2, m2, c2, us, E2, r2, rfl, hm2, hl2, hb2, his2, hB2⟩
  obtain ⟨rfl, hg2, hV2, hE2⟩ := his2
  have a3 := below1 w2 (.cells #[.bool g2, .slice A2 m2 c2, .int .i64 E2] 32)
  have hs2' := HS.out.trans (hB2.mono HS.out.size)
  have hs3' := hs2'.trans (a3.mono hs2'.size)
  have k0 : HoldB2 w w1.heap.size g1 A1 m1 c1 zs E1 w2.heap.size g2 A2 m2 c2 us E2 (w2.alloc (.cells #[.bool g2, .slice A2 m2 c2, .int .i64 E2] 32)) :=
    ⟨(HI.out.below hB2).below a3, (HB1.out.below hB2).below a3, Bd.new _ _ _ _ _ _ _, (HL1.out.below hB2).below a3, hl2.below a3, HT.out.below hs3', hs3', Hlt1.out, (HB1.out.below hB2).lt⟩
  have K0 := Lib.hid k0
  have HE2 : Hid (Bare us ∧ d2 = ⟨g2, val us, E2⟩) := ⟨hb2, by rw [hg2, hV2, hE2]⟩
  obtain ⟨v, hv⟩ : ∃ v, cmpI (dw g1 (val zs) E1) (dw g2 (val us) E2) = v := ⟨_, rfl⟩
  have H4 : Hid (∀ u, HoldB2 w w1.heap.size g1 A1 m1 c1 zs E1 w2.heap.size g2 A2 m2 c2 us E2 u → Calls Tryz.prog 10 #[.agg #[.bool g1, .slice A1 m1 c1, .int .i64 E1], .agg #[.bool g2, .slice A2 m2 c2, .int .i64 E2]] u fun e w' => e = .returned (.int .i64 v) ∧ Below u.heap.size u w') := fun u hu =>
    dcmp_l v g1 A1 m1 c1 zs E1 g2 A2 m2 c2 us E2 u hu.2.2.2.1 hu.2.2.2.2.1 (by omega) (by omega) hu.2.2.2.2.2.1 hv
  have HV := Lib.hid hv
  have x0 := k0.2.1.c0
  have x1 := k0.2.1.c1
  have x2 := k0.2.1.c2
  have y0 := k0.2.2.1.c0
  have y1 := k0.2.2.1.c1
  have y2 := k0.2.2.1.c2
  clear hl2 hb2 hg2 hV2 hE2 hB2 H3 hs2' hs3' a3 HS HI HB1 HL1 HT k0 hv Hlt1
  go_wp2_with fail
  refine (H4.out _ K0.out).mono ?_
  rintro e w3 ⟨rfl, hB3⟩
  have k1 := K0.out.below hB3
  obtain ⟨bv, hbv⟩ : ∃ bv, decide ((0 : Int) < v) = bv := ⟨_, rfl⟩
  have H5 : Hid (SortedB w w1.heap.size w2.heap.size g V U s (if bv = true then World.put (World.put w3 w1.heap.size g2 A2 m2 c2 E2) w2.heap.size g1 A1 m1 c1 E1 else w3)) := by
    show SortedB _ _ _ _ _ _ _ _
    rw [← HVU.out.1, ← HVU.out.2]
    cases bv with
    | true =>
      have hv0 : 0 < v := of_decide_eq_true hbv
      rw [if_pos rfl]
      refine ⟨g2, A2, m2, c2, us, E2, g1, A1, m1, c1, zs, E1, k1.swap, by omega, by omega, HE2.out.1, HE1.out.1, ?_⟩
      cases g with
      | true => exact ⟨by rw [← HE2.out.2]; exact HD.out.2.1, by rw [← HE1.out.2]; exact HD.out.1⟩
      | false =>
        exfalso
        have h := within_ord (g := false) (a := val xs) (b := val ys) (E := -s) HD.out.2.2 HD.out.1 HD.out.2.1
        rw [HE1.out.2, HE2.out.2] at h
        have h' : cmpI (dw g1 (val zs) E1) (dw g2 (val us) E2) ≤ 0 := h
        rw [HV.out] at h'
        omega
    | false =>
      have hv0 : ¬ 0 < v := of_decide_eq_false hbv
      change SortedB w w1.heap.size w2.heap.size g _ _ s w3
      refine ⟨g1, A1, m1, c1, zs, E1, g2, A2, m2, c2, us, E2, k1, by omega, by omega, HE1.out.1, HE2.out.1, ?_⟩
      cases g with
      | false => exact ⟨by rw [← HE1.out.2]; exact HD.out.1, by rw [← HE2.out.2]; exact HD.out.2.1⟩
      | true =>
        have h := with_same HD.out.1 HD.out.2.1 HD.out.2.2 (by
          rw [HE1.out.2, HE2.out.2]
          show cmpI (dw g1 (val zs) E1) (dw g2 (val us) E2) ≤ 0
          rw [HV.out]; omega)
        have j1 := HD.out.1
        have j2 := HD.out.2.1
        rw [HE1.out.2] at j1
        rw [HE2.out.2] at j2
        constructor
        · show mk true (val ys) (-s) = _
          rw [← h]; exact j1
        · show mk true (val xs) (-s) = _
          rw [h]; exact j2
  have K1 := Lib.hid k1
  clear x0 x1 x2 y0 y1 y2 hB3 K0 H4 k1 HV HD HE1 HE2 HVU
  go_upto_if 39 with fail
  go_cut [11] from 40 (fun _ wx => Hid (SortedB w w1.heap.size w2.heap.size g V U s wx))
  case first =>
    cases bv with
    | true =>
      rw [if_pos rfl] at H5
      have x0 := K1.out.2.1.c0
      have x1 := K1.out.2.1.c1
      have x2 := K1.out.2.1.c2
      have y0 := K1.out.2.2.1.c0
      have y1 := K1.out.2.2.1.c1
      have y2 := K1.out.2.2.1.c2
      have xf := K1.out.2.1.fz
      have hne : w2.heap.size ≠ w1.heap.size := Nat.ne_of_gt K1.out.2.2.2.2.2.2.2.2
      have j := K1.out.2.2.1.other hne g2 A2 m2 c2 E2
      have z0 := j.c0
      have z1 := j.c1
      have z2 := j.c2
      have yf := j.fz
      clear hne j K1
      go_wp2_with fail
      go_meet
      exact H5
    | false =>
      rw [if_neg (by decide)] at H5
      clear K1
      go_wp2_with fail
      go_meet
      exact H5
  case rest =>
    obtain ⟨wA, rfl⟩ : ∃ wA, wA = wc := ⟨_, rfl⟩
    obtain ⟨h1, B1, n1, d1, ts, f1, h2, B2, n2, d2, vs, f2, k2, hn1, hn2, hbt, hbv_, hk1, hk2⟩ := hcut
    have x0 := k2.2.1.c0
    have x1 := k2.2.1.c1
    have x2 := k2.2.1.c2
    have y0 := k2.2.2.1.c0
    have y1 := k2.2.2.1.c1
    have y2 := k2.2.2.1.c2
    have zf := k2.1.fz
    have u0 := k2.1.x0
    have u1 := k2.1.x1
    have u2 := k2.1.x2
    have u3 := k2.1.x3
    have u4 := k2.1.x4
    have u5 := k2.1.x5
    have Hfin := Lib.hid (with_out k2 hn1 hn2 hbt hbv_ hk1 hk2)
    clear H5 K1 k2 hbt hbv_ hk1 hk2
    go_wp2_with fail
    exact bodyPost_ret (v := .agg #[.bool h1, .slice B1 n1 d1, .int .i64 f1, .bool h2, .slice B2 n2 d2, .int .i64 f2]) (by simp [results, Tryz.results24, go_sem, u0, u1, u2, u3, u4, u5]) rfl Hfin.out
end Go.Proofs.YtijhdlkfihjbiaaGreatDoor
/- exp of twice atanh: as near to (1 + r)/(1 - r) as one likes, by enough terms. -/
namespace Go.Proofs.YtijhdlkfihjbiaaGreatDoor

theorem pow_less {y : Rat} (h0 : 0 ≤ y) (h1 : 9 * y ≤ 1) : ∀ c : Nat, ((c + 1 : Nat) : Rat) * y ^ c ≤ 1 := by
  intro c
  induction c with
  | zero =>
    have e : ((0 + 1 : Nat) : Rat) = 1 := rfl
    rw [e, Rat.pow_zero]
    grind
  | succ c ih =>
    have e : ((c + 1 + 1 : Nat) : Rat) = ((c + 1 : Nat) : Rat) + 1 := by exact_mod_cast rfl
    have m1 : (1 : Rat) ≤ ((c + 1 : Nat) : Rat) := by exact_mod_cast (show 1 ≤ c + 1 by omega)
    have p := rpow_nonneg h0 c
    rw [e, Rat.pow_succ]
    generalize y ^ c = Y at *
    generalize ((c + 1 : Nat) : Rat) = m at *
    have a := rmul_le ih h0
    have b := rmul_le m1 (show 0 ≤ Y * y by have := rmul_le h0 p; grind)
    grind
theorem bern {q : Rat} (h0 : 0 ≤ q) (h1 : q ≤ 1) : ∀ n : Nat, 1 - n * q ≤ (1 - q) ^ n ∧ 0 ≤ (1 - q) ^ n := by
  intro n
  induction n with
  | zero =>
    have e : ((0 : Nat) : Rat) = 0 := rfl
    rw [e, Rat.pow_zero]
    constructor <;> grind
  | succ n ih =>
    obtain ⟨i1, i2⟩ := ih
    have e : ((n + 1 : Nat) : Rat) = (n : Rat) + 1 := by exact_mod_cast rfl
    have n0 := rnat_nonneg n
    rw [e, Rat.pow_succ]
    generalize (1 - q) ^ n = W at *
    generalize (n : Rat) = m at *
    have k1 := rmul_le i1 (show 0 ≤ 1 - q by grind)
    have k2 := rmul_le (show 0 ≤ q * q by have := rmul_le h0 h0; grind) n0
    have k3 := rmul_le i2 (show 0 ≤ 1 - q by grind)
    constructor
    · grind
    · grind
/-- One step. -/
theorem step_down {x z : Rat} (h0 : 0 ≤ x) (h : x ≤ z) (hz : 3 * z ≤ 1) (c K : Nat) {η : Rat} (hη : (x * x) ^ c ≤ η) (η0 : 0 ≤ η) :
    (1 - x) * (1 + z) * (1 - (3 * ((z - x) * η) + 9 * ((z - x) * (z - x)))) * eS (2 * atS x c) K ≤ (1 - z) * (1 + x) * eS (2 * atS z c) (K + 1) := by
  have z0 : 0 ≤ z := by grind
  obtain ⟨d1, d2⟩ := atS_diff h0 h c
  obtain ⟨y0, y1⟩ := third z0 hz
  obtain ⟨x0, x1⟩ := third h0 (show 3 * x ≤ 1 by grind)
  have g1 := gS_le y0 c
  have gx := gS_mul (x * x) c
  have g0 := gS_nonneg x0 c
  obtain ⟨δ, hδ⟩ : ∃ δ, atS z c - atS x c = δ := ⟨_, rfl⟩
  obtain ⟨s, hs⟩ : ∃ s, z - x = s := ⟨_, rfl⟩
  have s0 : 0 ≤ s := by grind
  rw [hδ, hs] at d1 d2
  have δ0 : 0 ≤ δ := by
    have := rmul_le g0 s0
    rw [Rat.mul_zero] at this
    exact Rat.le_trans this d1
  have zδ : (1 - z * z) * δ ≤ s := by
    have a1 := rmul_le g1 s0
    have a2 := rmul_le d2 (show 0 ≤ 1 - z * z by grind)
    generalize gS (z * z) c = g at *
    clear d1 g0 gx
    grind
  have δs : 2 * δ ≤ 3 * s := by
    have := rmul_le (show 8 ≤ 9 * (1 - z * z) by grind) δ0
    grind
  have xδ : s * (1 - η) ≤ (1 - x * x) * δ := by
    have a1 := rmul_le d1 (show 0 ≤ 1 - x * x by grind)
    have a2 := rmul_le hη s0
    generalize gS (x * x) c = g at *
    generalize (x * x) ^ c = Y at *
    clear d2 g1
    have e : (1 - x * x) * (s * g) = s * ((1 - x * x) * g) := by grind
    rw [e, gx] at a1
    grind
  have a := eS_mul_le (x := 2 * atS x c) (y := 2 * δ) (by have := atS_nonneg h0 c; grind) (by grind) K 1
  have e : 2 * atS x c + 2 * δ = 2 * atS z c := by grind
  rw [e] at a
  have b := (eS_near (d := 2 * δ) (by grind) (by grind) 0).1
  rw [Nat.zero_add] at b
  have E0 := eS_nonneg (x := 2 * atS x c) (by have := atS_nonneg h0 c; grind) K
  obtain ⟨w, hw⟩ : ∃ w, (1 - z) * (1 + x) = w := ⟨_, rfl⟩
  have hxz : (1 - x) * (1 + z) = w + 2 * s := by grind
  have hwx : 1 - x * x = w + (1 + x) * s := by grind
  have w23 : 2 ≤ 3 * w := by
    have := rmul_le h0 (show 0 ≤ 1 - z by grind)
    grind
  rw [hw, hs, hxz]
  rw [hwx] at xδ
  generalize eS (2 * atS x c) K = E at *
  generalize eS (2 * atS z c) (K + 1) = E' at *
  generalize eS (2 * δ) 1 = D at *
  have k1 := rmul_le b (show 0 ≤ E by grind)
  have sδ := rmul_le δs s0
  have sδ0 := rmul_le δ0 s0
  have ss := rmul_le s0 s0
  have sη := rmul_le η0 s0
  have x13 : 3 * (1 + x) ≤ 4 := by grind
  have k2 := rmul_le x13 (show 0 ≤ s * δ by grind)
  have k3 := rmul_le w23 (show 0 ≤ s * η by grind)
  have k4 := rmul_le w23 (show 0 ≤ s * s by grind)
  have k5 := rmul_le ss s0
  have k6 := rmul_le sη s0
  have main : (w + 2 * s) * (1 - (3 * (s * η) + 9 * (s * s))) ≤ w * (1 + 2 * δ) := by
    clear a b k1 E0 hw hxz hwx d1 d2 g1 gx g0 zδ hδ e
    grind
  have k7 := rmul_le main (show 0 ≤ E by grind)
  have k8 := rmul_le (show E * (1 + 2 * δ) ≤ E' by grind) (show 0 ≤ w by grind)
  grind
/-- n steps. -/
theorem steps_down {s η : Rat} (h0 : 0 ≤ s) (c : Nat) (η0 : 0 ≤ η) (hη : ∀ x : Rat, 0 ≤ x → 3 * x ≤ 1 → (x * x) ^ c ≤ η) (hq : 3 * (s * η) + 9 * (s * s) ≤ 1) : ∀ n : Nat, 3 * (n * s) ≤ 1 → (1 + n * s) * (1 - (3 * (s * η) + 9 * (s * s))) ^ n ≤ (1 - n * s) * eS (2 * atS (n * s) c) n := by
  intro n
  induction n with
  | zero =>
    intro _
    have z : ((0 : Nat) : Rat) = 0 := rfl
    rw [z, Rat.pow_zero, eS_zero]
    grind
  | succ n ih =>
    intro hn
    have e : ((n + 1 : Nat) : Rat) = (n : Rat) + 1 := by exact_mod_cast rfl
    have n0 := rnat_nonneg n
    have ns := rmul_le h0 n0
    rw [e] at hn ⊢
    have i := ih (by grind)
    have st := step_down (x := n * s) (z := (n + 1) * s) (by grind) (by grind) hn c n (hη _ (by grind) (by grind)) η0
    rw [show ((n : Rat) + 1) * s - n * s = s by grind] at st
    rw [Rat.pow_succ]
    have q0 : 0 ≤ 3 * (s * η) + 9 * (s * s) := by have a := rmul_le η0 h0; have := rmul_le h0 h0; grind
    have W0 := (bern q0 hq n).2
    generalize eS (2 * atS (n * s) c) n = E at *
    generalize eS (2 * atS ((n + 1) * s) c) (n + 1) = E' at *
    generalize (1 - (3 * (s * η) + 9 * (s * s))) ^ n = W at *
    generalize 3 * (s * η) + 9 * (s * s) = q at *
    have t : ((n : Rat) + 1) * s = n * s + s := by grind
    rw [t] at st hn ⊢
    generalize (n : Rat) * s = x at *
    refine rcancel (c := 1 + x) ?_ (by grind)
    have k := rmul_le i (show 0 ≤ (1 + (x + s)) * (1 - q) by
      have := rmul_le (show 0 ≤ 1 - q by grind) (show 0 ≤ 1 + (x + s) by grind)
      grind)
    grind
/-- exp of twice atanh r, by n terms each, is within 2/n of (1 + r)/(1 - r). -/
theorem exp_at_ge {r : Rat} (h0 : 0 ≤ r) (h1 : 3 * r ≤ 1) (n : Nat) (hn : 2 ≤ n) : (n : Rat) * (1 + r) ≤ n * ((1 - r) * eS (2 * atS r n) n) + 2 * (1 + r) := by
  obtain ⟨i, hi, i1, i2, i3⟩ := inv_nat (n := n) (by omega)
  have m2 : (2 : Rat) ≤ (n : Rat) := by exact_mod_cast hn
  have i4 : 2 * i ≤ 1 := by have := rmul_le m2 i2; grind
  have e : (n : Rat) * (r * i) = r := by grind
  obtain ⟨y0, y1⟩ := third h0 h1
  have hη : ∀ x : Rat, 0 ≤ x → 3 * x ≤ 1 → (x * x) ^ n ≤ i := fun x a b => by
    obtain ⟨c0, c1⟩ := third a b
    have l := pow_less c0 c1 n
    have p := rpow_nonneg c0 n
    have e5 : ((n + 1 : Nat) : Rat) = (n : Rat) + 1 := by exact_mod_cast rfl
    rw [e5] at l
    generalize (x * x) ^ n = Y at *
    have k := rmul_le (show (n : Rat) * Y ≤ 1 by grind) i2
    have e6 : i * ((n : Rat) * Y) = Y := by rw [← Rat.mul_assoc, Rat.mul_comm i, i1, Rat.one_mul]
    rw [e6] at k
    grind
  have ri := rmul_le i2 h0
  have nq : (n : Rat) * (3 * (r * i * i) + 9 * (r * i * (r * i))) ≤ 2 * i := by
    have e7 : (n : Rat) * (3 * (r * i * i) + 9 * (r * i * (r * i))) = 3 * r * i + 9 * (r * r) * i := by grind
    rw [e7]
    have a := rmul_le h1 i2
    have b := rmul_le y1 i2
    grind
  have q0 : 0 ≤ 3 * (r * i * i) + 9 * (r * i * (r * i)) := by
    have a := rmul_le i2 (show 0 ≤ r * i by grind)
    have b := rmul_le (show 0 ≤ r * i by grind) (show 0 ≤ r * i by grind)
    grind
  have q1 : 3 * (r * i * i) + 9 * (r * i * (r * i)) ≤ 1 := by
    have := rmul_le (show (1 : Rat) ≤ n by grind) q0
    grind
  have st := steps_down (s := r * i) (η := i) (by grind) n i2 hη q1 n (by rw [e]; exact h1)
  rw [e] at st
  have b := (bern q0 q1 n).1
  generalize (1 - (3 * (r * i * i) + 9 * (r * i * (r * i)))) ^ n = W at *
  generalize (n : Rat) * (3 * (r * i * i) + 9 * (r * i * (r * i))) = nq_ at *
  generalize eS (2 * atS r n) n = E at *
  have k1 := rmul_le (show 1 - 2 * i ≤ W by grind) (show 0 ≤ 1 + r by grind)
  have k2 : (1 + r) * (1 - 2 * i) ≤ (1 - r) * E := by grind
  have k3 := rmul_le k2 (show 0 ≤ (n : Rat) by grind)
  have e8 : (n : Rat) * ((1 + r) * (1 - 2 * i)) = n * (1 + r) - 2 * (1 + r) := by grind
  rw [e8] at k3
  grind
end Go.Proofs.YtijhdlkfihjbiaaGreatDoor
/- Where a logarithm is, said by exp of finite sums: order, products, powers, what is divided by it. Numbers alone. -/
namespace Go.Proofs.YtijhdlkfihjbiaaGreatDoor

theorem ln_grows {x y : Rat} (h0 : 0 ≤ x) (h : x ≤ y) (N : Nat) : eS x N ≤ eS y N := by
  have e : y = x + (y - x) := by grind
  have m := eS_mul_le h0 (show 0 ≤ y - x by grind) N 0
  rw [← e, eS_zero, Nat.add_zero] at m
  grind
theorem eS_nought (N : Nat) : eS 0 N = 1 := by
  have t : ∀ k, tk 0 (k + 1) = 0 := fun k => by
    have e := tk_succ 0 k
    have n0 := rnat_pos (show 0 < k + 1 by omega)
    have : ((k + 1 : Nat) : Rat) * tk 0 (k + 1) = 0 := by rw [e]; grind
    refine Rat.le_antisymm (rcancel (c := ((k + 1 : Nat) : Rat)) (by grind) n0) (rcancel (c := ((k + 1 : Nat) : Rat)) (by grind) n0)
  induction N with
  | zero => exact eS_zero 0
  | succ N ih => rw [eS_succ, ih, t]; grind

/-- exp of a times c isn't above exp of b times d. -/
def ELe (a c b d : Rat) : Prop := ∀ (N : Nat) (δ : Rat), 0 < δ → δ ≤ 1 → ∃ M, (1 - δ) * (eS a N * c) ≤ eS b M * d
theorem ELe.mono {a c b d : Rat} (ha : 0 ≤ a) (hc : 0 ≤ c) (hab : a ≤ b) (hcd : c ≤ d) : ELe a c b d := fun N δ h0 h1 => by
  refine ⟨N, ?_⟩
  have g := ln_grows ha hab N
  have n1 := eS_nonneg ha N
  have n2 := eS_nonneg (show 0 ≤ b by grind) N
  generalize eS a N = A at *
  generalize eS b N = B at *
  have m1 := rmul_le hcd (show 0 ≤ B by grind)
  have m2 := rmul_le g hc
  have p : 0 ≤ A * c := by
    have := rmul_le hc (show 0 ≤ A by grind)
    grind
  have m3 := rmul_le p (Rat.le_of_lt h0)
  grind
theorem ELe.trans {a c b d g f : Rat} (h1 : ELe a c b d) (h2 : ELe b d g f) (ha : 0 ≤ a) (hc : 0 ≤ c) : ELe a c g f := fun N δ h0 hd => by
  obtain ⟨M, m1⟩ := h1 N (δ / 2) (by grind) (by grind)
  obtain ⟨K, k1⟩ := h2 M (δ / 2) (by grind) (by grind)
  refine ⟨K, ?_⟩
  have n1 := eS_nonneg ha N
  have p : 0 ≤ eS a N * c := by
    have := rmul_le hc (show 0 ≤ eS a N by grind)
    grind
  generalize eS a N * c = A at *
  generalize eS b M * d = B at *
  generalize eS g K * f = C at *
  have t := rmul_le m1 (show 0 ≤ 1 - δ / 2 by grind)
  have q := rmul_le p (show 0 ≤ δ / 2 * (δ / 2) by have := rmul_le (show 0 ≤ δ / 2 by grind) (show 0 ≤ δ / 2 by grind); grind)
  have e : (1 - δ / 2) * ((1 - δ / 2) * A) = (1 - δ) * A + δ / 2 * (δ / 2) * A := by grind
  rw [e] at t
  grind
theorem ELe.mul {a c b d a' c' b' d' : Rat} (h1 : ELe a c b d) (h2 : ELe a' c' b' d') (ha : 0 ≤ a) (ha' : 0 ≤ a') (hb : 0 ≤ b) (hb' : 0 ≤ b') (hc : 0 ≤ c) (hc' : 0 ≤ c') (hd : 0 ≤ d) (hd' : 0 ≤ d') : ELe (a + a') (c * c') (b + b') (d * d') := fun N δ h0 h9 => by
  obtain ⟨M, m1⟩ := h1 N (δ / 2) (by grind) (by grind)
  obtain ⟨K, k1⟩ := h2 N (δ / 2) (by grind) (by grind)
  refine ⟨M + K, ?_⟩
  have s1 := eS_add_le ha ha' N
  have s2 := eS_mul_le hb hb' M K
  have n1 := eS_nonneg ha N
  have n2 := eS_nonneg ha' N
  have n3 := eS_nonneg hb M
  have n4 := eS_nonneg hb' K
  have n5 := eS_nonneg (show 0 ≤ a + a' by grind) N
  generalize eS (a + a') N = S at *
  generalize eS (b + b') (M + K) = T at *
  generalize eS a N = A at *
  generalize eS a' N = A' at *
  generalize eS b M = B at *
  generalize eS b' K = B' at *
  have p1 : 0 ≤ A * c := by have := rmul_le hc (show 0 ≤ A by grind); grind
  have p2 : 0 ≤ A' * c' := by have := rmul_le hc' (show 0 ≤ A' by grind); grind
  have p3 : 0 ≤ B * d := by have := rmul_le hd (show 0 ≤ B by grind); grind
  have p4 : 0 ≤ B' * d' := by have := rmul_le hd' (show 0 ≤ B' by grind); grind
  have cc : 0 ≤ c * c' := by have := rmul_le hc' hc; grind
  have dd : 0 ≤ d * d' := by have := rmul_le hd' hd; grind
  have u := 1 - δ / 2
  -- (1 - δ/2)^2 A c A' c' ≤ B d B' d'
  have x1 : 0 ≤ (1 - δ / 2) * (A' * c') := by have := rmul_le p2 (show 0 ≤ 1 - δ / 2 by grind); grind
  have t1 := rmul_le k1 p3
  have t2 := rmul_le m1 x1
  have y1 := rmul_le s1 cc
  have y2 := rmul_le s2 dd
  have AA : 0 ≤ A * A' * (c * c') := by
    have := rmul_le p2 p1
    grind
  have q := rmul_le AA (show 0 ≤ δ / 2 * (δ / 2) by have := rmul_le (show 0 ≤ δ / 2 by grind) (show 0 ≤ δ / 2 by grind); grind)
  have y3 := rmul_le y1 (show 0 ≤ 1 - δ by grind)
  have e1 : (1 - δ / 2) * (A' * c') * ((1 - δ / 2) * (A * c)) = (1 - δ) * (c * c' * (A * A')) + δ / 2 * (δ / 2) * (A * A' * (c * c')) := by grind
  have e2 : B * d * (B' * d') = d * d' * (B * B') := by grind
  rw [e1] at t2
  rw [e2] at t1
  grind
theorem eS_bd (b : Rat) (hb : 0 ≤ b) : ∃ B : Rat, 0 < B ∧ ∀ M, eS b M ≤ B := by
  obtain ⟨n, hn⟩ := rat_arch b
  have key : ∀ n : Nat, ∃ B : Rat, 0 < B ∧ ∀ M, eS (n : Rat) M ≤ B := by
    intro n
    induction n with
    | zero =>
      refine ⟨1, by grind, fun M => ?_⟩
      have e : ((0 : Nat) : Rat) = 0 := by exact_mod_cast rfl
      rw [e, eS_nought]
      grind
    | succ n ih =>
      obtain ⟨B, B0, h⟩ := ih
      refine ⟨B * 3, by grind, fun M => ?_⟩
      have e : ((n + 1 : Nat) : Rat) = (n : Rat) + 1 := by exact_mod_cast rfl
      have s := eS_add_le (rnat_nonneg n) (show (0 : Rat) ≤ 1 by grind) M
      have g := (ge_bd (x := 1) (by grind) (by grind) M 1 (by decide)).2
      have e1 : ((1 : Nat) : Rat) = 1 := by exact_mod_cast rfl
      rw [e1] at g
      have g3 : eS 1 M ≤ 3 := by
        have : eS 1 M = ge_ 1 M 1 := rfl
        rw [this]; grind
      have hM := h M
      have n1 := eS_nonneg (rnat_nonneg n) M
      rw [e]
      generalize eS ((n : Rat) + 1) M = S at *
      generalize eS (n : Rat) M = X at *
      generalize eS 1 M = Y at *
      have m1 := rmul_le g3 (show 0 ≤ X by grind)
      grind
  obtain ⟨B, B0, h⟩ := key n
  refine ⟨B, B0, fun M => ?_⟩
  have g := ln_grows hb hn M
  have := h M
  grind
/-- exp rises. -/
theorem ELe.le {a b : Rat} (hb : 0 ≤ b) (h : ELe a 1 b 1) : a ≤ b := by
  refine Classical.byContradiction fun hlt => ?_
  have hlt : b < a := by grind
  obtain ⟨t, ht⟩ : ∃ t, a - b = t := ⟨_, rfl⟩
  have t0 : 0 < t := by grind
  have ea : a = b + t := by grind
  obtain ⟨B, B0, hB⟩ := eS_bd b hb
  -- δ so that (1 - δ)(1 + t) is 1 + t/2 at least
  obtain ⟨δ, hδ⟩ : ∃ δ : Rat, δ * (2 * (1 + t)) = t := ⟨t / (2 * (1 + t)), Rat.div_mul_cancel (Rat.ne_of_gt (by grind))⟩
  have d0 : 0 < δ := by
    refine Classical.byContradiction fun h9 => ?_
    have h8 : δ ≤ 0 := by grind
    have := rmul_le h8 (show 0 ≤ 2 * (1 + t) by grind)
    grind
  have d1 : δ ≤ 1 := rcancel (c := 2 * (1 + t)) (by grind) (by grind)
  have step : ∀ k : Nat, ∃ N, 1 + k * (t / 2) ≤ eS b N := by
    intro k
    induction k with
    | zero =>
      refine ⟨0, ?_⟩
      have e : ((0 : Nat) : Rat) = 0 := by exact_mod_cast rfl
      rw [eS_zero, e]
      grind
    | succ k ih =>
      obtain ⟨N, hN⟩ := ih
      obtain ⟨M, hM⟩ := h (N + 1) δ d0 d1
      refine ⟨M, ?_⟩
      have m := eS_mul_le hb (Rat.le_of_lt t0) N 1
      have e1 : eS t 1 = 1 + t := by
        have := eS_succ t 0
        have k1 := tk_succ t 0
        have e0 : ((0 + 1 : Nat) : Rat) = 1 := by exact_mod_cast rfl
        rw [e0, tk_zero] at k1
        rw [eS_zero] at this
        rw [show (1 : Nat) = 0 + 1 from rfl, this]
        grind
      rw [e1, ← ea] at m
      have n1 := eS_nonneg hb N
      have e : ((k + 1 : Nat) : Rat) = (k : Rat) + 1 := by exact_mod_cast rfl
      rw [e]
      generalize eS a (N + 1) = A at *
      generalize eS b M = C at *
      generalize eS b N = D at *
      have m1 := rmul_le m (show 0 ≤ 1 - δ by grind)
      have e2 : (1 - δ) * (D * (1 + t)) = D * (1 + t / 2) := by
        have : δ * (1 + t) = t / 2 := by grind
        grind
      rw [e2] at m1
      have m2 := rmul_le n1 (show 0 ≤ t / 2 by grind)
      grind
  obtain ⟨n, hn⟩ := rat_arch (B / (t / 2))
  obtain ⟨N, hN⟩ := step n
  have hb9 := hB N
  have h2 := rmul_le hn (show 0 ≤ t / 2 by grind)
  have e3 : t / 2 * (B / (t / 2)) = B := by
    rw [Rat.mul_comm]; exact Rat.div_mul_cancel (Rat.ne_of_gt (by grind))
  rw [e3] at h2
  grind
end Go.Proofs.YtijhdlkfihjbiaaGreatDoor
/- Between what a logarithm is: an end below, an end above; in order, of products, powers, of what is divided by it. Numbers alone. -/
namespace Go.Proofs.YtijhdlkfihjbiaaGreatDoor

theorem ELe.scale {a c b d k : Rat} (h : ELe a c b d) (hk : 0 ≤ k) : ELe a (c * k) b (d * k) := fun N δ h0 h1 => by
  obtain ⟨M, m⟩ := h N δ h0 h1
  refine ⟨M, ?_⟩
  have := rmul_le m hk
  grind
/-- L isn't above the logarithm of D. -/
def LnGe (D L : Rat) : Prop := ∃ a b : Rat, 0 ≤ a ∧ 0 ≤ b ∧ L = a - b ∧ ELe a 1 b D
/-- H isn't below the logarithm of D. -/
def LnLe (D H : Rat) : Prop := ∃ a b : Rat, 0 ≤ a ∧ 0 ≤ b ∧ H = a - b ∧ ELe b D a 1

/-- In order. -/
theorem ln_order {X Y L H : Rat} (hX : 0 < X) (hXY : X ≤ Y) (h1 : LnGe X L) (h2 : LnLe Y H) : L ≤ H := by
  obtain ⟨a, b, a0, b0, rfl, e1⟩ := h1
  obtain ⟨g, f, g0, f0, rfl, e2⟩ := h2
  have hY : 0 < Y := by grind
  have t1 : ELe a 1 b Y := ELe.trans e1 (ELe.mono b0 (Rat.le_of_lt hX) Rat.le_refl hXY) a0 (by grind)
  have m := ELe.mul t1 e2 a0 f0 b0 g0 (by grind) (Rat.le_of_lt hY) (Rat.le_of_lt hY) (by grind)
  obtain ⟨i, hi⟩ : ∃ i : Rat, i * Y = 1 := ⟨1 / Y, Rat.div_mul_cancel (Rat.ne_of_gt hY)⟩
  have i0 : 0 ≤ i := by
    refine Classical.byContradiction fun h9 => ?_
    have h8 : i ≤ 0 := by grind
    have := rmul_le h8 (Rat.le_of_lt hY)
    grind
  have s := m.scale i0
  have e3 : 1 * Y * i = 1 := by grind
  have e4 : Y * 1 * i = 1 := by grind
  rw [e3, e4] at s
  have := s.le (show 0 ≤ b + g by grind)
  grind
theorem LnGe.less {D L L' : Rat} (hD : 0 ≤ D) (h : LnGe D L) (hl : L' ≤ L) : LnGe D L' := by
  obtain ⟨a, b, a0, b0, rfl, e⟩ := h
  -- a lower end: more is taken off
  refine ⟨a, b + (a - b - L'), a0, by grind, by grind, fun N δ h0 h1 => ?_⟩
  obtain ⟨M, m⟩ := e N δ h0 h1
  refine ⟨M, ?_⟩
  have g := ln_grows b0 (show b ≤ b + (a - b - L') by grind) M
  have := rmul_le g hD
  grind
theorem LnLe.more {D H H' : Rat} (h : LnLe D H) (hl : H ≤ H') : LnLe D H' := by
  obtain ⟨a, b, a0, b0, rfl, e⟩ := h
  refine ⟨a + (H' - (a - b)), b, by grind, b0, by grind, fun N δ h0 h1 => ?_⟩
  obtain ⟨M, m⟩ := e N δ h0 h1
  refine ⟨M, ?_⟩
  have g := ln_grows a0 (show a ≤ a + (H' - (a - b)) by grind) M
  grind
/-- Of a product. -/
theorem LnGe.mul {X Y L L' : Rat} (hX : 0 ≤ X) (hY : 0 ≤ Y) (h1 : LnGe X L) (h2 : LnGe Y L') : LnGe (X * Y) (L + L') := by
  obtain ⟨a, b, a0, b0, rfl, e1⟩ := h1
  obtain ⟨g, f, g0, f0, rfl, e2⟩ := h2
  have m := ELe.mul e1 e2 a0 g0 b0 f0 (by grind) (by grind) hX hY
  have e3 : (1 : Rat) * 1 = 1 := by grind
  rw [e3] at m
  exact ⟨a + g, b + f, by grind, by grind, by grind, m⟩
theorem LnLe.mul {X Y H H' : Rat} (hX : 0 ≤ X) (hY : 0 ≤ Y) (h1 : LnLe X H) (h2 : LnLe Y H') : LnLe (X * Y) (H + H') := by
  obtain ⟨a, b, a0, b0, rfl, e1⟩ := h1
  obtain ⟨g, f, g0, f0, rfl, e2⟩ := h2
  have m := ELe.mul e1 e2 b0 f0 a0 g0 hX hY (by grind) (by grind)
  have e3 : (1 : Rat) * 1 = 1 := by grind
  rw [e3] at m
  exact ⟨a + g, b + f, by grind, by grind, by grind, m⟩
theorem LnGe.one : LnGe 1 0 := ⟨0, 0, by grind, by grind, by grind, ELe.mono (by grind) (by grind) Rat.le_refl Rat.le_refl⟩
theorem LnLe.one : LnLe 1 0 := ⟨0, 0, by grind, by grind, by grind, ELe.mono (by grind) (by grind) Rat.le_refl Rat.le_refl⟩
/-- Of a power. -/
theorem LnGe.pow {X L : Rat} (hX : 0 ≤ X) (h : LnGe X L) : ∀ n : Nat, LnGe (X ^ n) (n * L) := by
  intro n
  induction n with
  | zero =>
    have e : ((0 : Nat) : Rat) * L = 0 := by
      have : ((0 : Nat) : Rat) = 0 := by exact_mod_cast rfl
      rw [this]; grind
    rw [Rat.pow_zero, e]
    exact LnGe.one
  | succ n ih =>
    have e : ((n + 1 : Nat) : Rat) * L = (n : Rat) * L + L := by
      have : ((n + 1 : Nat) : Rat) = (n : Rat) + 1 := by exact_mod_cast rfl
      rw [this]; grind
    rw [Rat.pow_succ, e]
    exact LnGe.mul (rpow_nonneg hX n) hX ih h
theorem LnLe.pow {X H : Rat} (hX : 0 ≤ X) (h : LnLe X H) : ∀ n : Nat, LnLe (X ^ n) (n * H) := by
  intro n
  induction n with
  | zero =>
    have e : ((0 : Nat) : Rat) * H = 0 := by
      have : ((0 : Nat) : Rat) = 0 := by exact_mod_cast rfl
      rw [this]; grind
    rw [Rat.pow_zero, e]
    exact LnLe.one
  | succ n ih =>
    have e : ((n + 1 : Nat) : Rat) * H = (n : Rat) * H + H := by
      have : ((n + 1 : Nat) : Rat) = (n : Rat) + 1 := by exact_mod_cast rfl
      rw [this]; grind
    rw [Rat.pow_succ, e]
    exact LnLe.mul (rpow_nonneg hX n) hX ih h
/-- Of 1 divided by it. -/
theorem LnGe.inv {X Y L : Rat} (hY : 0 ≤ Y) (hXY : X * Y = 1) (h : LnGe X L) : LnLe Y (-L) := by
  obtain ⟨a, b, a0, b0, rfl, e⟩ := h
  have s := e.scale hY
  rw [hXY] at s
  have e1 : (1 : Rat) * Y = Y := by grind
  rw [e1] at s
  exact ⟨b, a, b0, a0, by grind, s⟩
theorem LnLe.inv {X Y H : Rat} (hY : 0 ≤ Y) (hXY : X * Y = 1) (h : LnLe X H) : LnGe Y (-H) := by
  obtain ⟨a, b, a0, b0, rfl, e⟩ := h
  have s := e.scale hY
  rw [hXY] at s
  have e1 : (1 : Rat) * Y = Y := by grind
  rw [e1] at s
  exact ⟨b, a, b0, a0, by grind, s⟩
/-- Twice atanh of r is the logarithm of (1 + r) divided by (1 - r). -/
theorem ln_at_ge {r q : Rat} (h0 : 0 ≤ r) (h1 : 3 * r ≤ 1) (hq : (1 - r) * q = 1 + r) (c : Nat) : LnGe q (2 * atS r c) := by
  have a0 := atS_nonneg h0 c
  refine ⟨2 * atS r c, 0, by grind, by grind, by grind, fun N δ d0 d1 => ⟨0, ?_⟩⟩
  have h := exp_at_le h0 h1 c N
  rw [eS_nought]
  have n1 := eS_nonneg (show 0 ≤ 2 * atS r c by grind) N
  generalize eS (2 * atS r c) N = E at *
  have p : E ≤ q := by
    refine rcancel (c := 1 - r) ?_ (by grind)
    grind
  have := rmul_le (show 0 ≤ E by grind) (Rat.le_of_lt d0)
  grind
theorem ln_at_le {r q U : Rat} (h0 : 0 ≤ r) (h1 : 3 * r ≤ 1) (hq : (1 - r) * q = 1 + r) (hU : ∀ c, 2 * atS r c ≤ U) : LnLe q U := by
  have a0 := atS_nonneg h0 0
  have u0 := hU 0
  refine ⟨U, 0, by grind, by grind, by grind, fun N δ d0 d1 => ?_⟩
  obtain ⟨n0, hn0⟩ := rat_arch (2 / δ)
  obtain ⟨n, hn, hn2⟩ : ∃ n : Nat, 2 ≤ n ∧ n0 ≤ n := ⟨n0 + 2, by omega, by omega⟩
  refine ⟨n, ?_⟩
  have h := exp_at_ge h0 h1 n hn
  have g := ln_grows (show 0 ≤ 2 * atS r n by have := atS_nonneg h0 n; grind) (hU n) n
  rw [eS_nought]
  have n9 := rnat_pos (show 0 < n by omega)
  have hn3 : (n0 : Rat) ≤ (n : Rat) := by exact_mod_cast hn2
  generalize eS (2 * atS r n) n = E at *
  generalize eS U n = F at *
  -- n (1 + r) ≤ n (1 - r) E + 2 (1 + r), and 2 ≤ δ n
  have dn : 2 ≤ δ * (n : Rat) := by
    have m := rmul_le (show 2 / δ ≤ (n : Rat) by grind) (Rat.le_of_lt d0)
    have e : δ * (2 / δ) = 2 := by rw [Rat.mul_comm]; exact Rat.div_mul_cancel (Rat.ne_of_gt d0)
    rw [e] at m
    exact m
  have q0 : 0 ≤ q := rcancel (c := 1 - r) (by grind) (by grind)
  have key : (1 - δ) * q ≤ E := by
    refine rcancel (c := (n : Rat) * (1 - r)) ?_ (Rat.mul_pos n9 (by grind))
    have e1 : (n : Rat) * (1 - r) * ((1 - δ) * q) = (1 - δ) * ((n : Rat) * ((1 - r) * q)) := by grind
    rw [e1, hq]
    have m := rmul_le dn (show 0 ≤ 1 + r by grind)
    grind
  grind
end Go.Proofs.YtijhdlkfihjbiaaGreatDoor
/- The document's logarithm of layer 13: how near it is. Numbers alone. -/
namespace Go.Proofs.YtijhdlkfihjbiaaGreatDoor

/-- What the document reckons of atanh, twice: a lower end, and 16 more an upper one. -/
theorem ln_of_dA {P num den c : Nat} {r q : Rat} (hP : 8 ≤ P) (hd : 0 < den) (hr : r * (den : Rat) = (num : Rat)) (h3 : 3 * num ≤ den) (hc : (P : Rat) * (r * r) ^ c ≤ 1) (hq : (1 - r) * q = 1 + r) :
    (∀ x : Rat, (P : Rat) * x = 2 * (dA P num den c : Rat) → LnGe q x) ∧ ∀ x : Rat, (P : Rat) * x = 2 * (dA P num den c : Rat) + 16 → LnLe q x := by
  obtain ⟨d1, d2⟩ := dA_spec hP hd hr h3 hc
  have p0 := rnat_pos (show 0 < P by omega)
  have den0 := rnat_pos hd
  have n0 := rnat_nonneg num
  have r0 : 0 ≤ r := rcancel (c := (den : Rat)) (by grind) den0
  have h3' : 3 * (num : Rat) ≤ den := by exact_mod_cast h3
  have r1 : 3 * r ≤ 1 := rcancel (c := (den : Rat)) (by grind) den0
  have q0 : 0 ≤ q := rcancel (c := 1 - r) (by grind) (by grind)
  constructor
  · intro x hx
    refine LnGe.less q0 (ln_at_ge r0 r1 hq c) (rcancel (c := (P : Rat)) ?_ p0)
    grind
  · intro x hx
    refine ln_at_le r0 r1 hq (fun M => rcancel (c := (P : Rat)) ?_ p0)
    have := d2 M
    grind
theorem two_pow_pos (k : Nat) : (0 : Rat) < 2 ^ k := by
  induction k with
  | zero => rw [Rat.pow_zero]; grind
  | succ k ih => rw [Rat.pow_succ]; grind
theorem inv_of {Z : Rat} (h : 0 < Z) : ∃ i : Rat, 0 ≤ i ∧ Z * i = 1 := by
  have e : 1 / Z * Z = 1 := Rat.div_mul_cancel (Rat.ne_of_gt h)
  refine ⟨1 / Z, ?_, by grind⟩
  refine Classical.byContradiction fun h9 => ?_
  have h8 : 1 / Z ≤ 0 := by grind
  have := rmul_le h8 (Rat.le_of_lt h)
  grind
/-- ln 2 as the document reckons it. -/
theorem ln2_of_dA {P c : Nat} (hP : 8 ≤ P) (hc : (P : Rat) * ((1 / 3 : Rat) * (1 / 3)) ^ c ≤ 1) :
    (∀ x : Rat, (P : Rat) * x = 2 * (dA P 1 3 c : Rat) → LnGe 2 x) ∧ ∀ x : Rat, (P : Rat) * x = 2 * (dA P 1 3 c : Rat) + 16 → LnLe 2 x := by
  refine ln_of_dA hP (by decide) ?_ (by decide) hc (by grind)
  have e1 : ((1 : Nat) : Rat) = 1 := by exact_mod_cast rfl
  have e3 : ((3 : Nat) : Rat) = 3 := by exact_mod_cast rfl
  rw [e1, e3]
  grind
end Go.Proofs.YtijhdlkfihjbiaaGreatDoor
/- What a dyad is worth, as a fraction. Numbers alone. -/
namespace Go.Proofs.YtijhdlkfihjbiaaGreatDoor

/-- The unit: 2 to the power 2^31 (never reckoned). -/
noncomputable def ub : Nat := Classical.choose (⟨2 ^ sh 0, rfl⟩ : ∃ k : Nat, k = 2 ^ sh 0)
theorem ub_eq : ub = 2 ^ sh 0 := Classical.choose_spec (⟨2 ^ sh 0, rfl⟩ : ∃ k : Nat, k = 2 ^ sh 0)
theorem ub_pos : (0 : Rat) < (ub : Rat) := rnat_pos (by rw [ub_eq]; exact Nat.two_pow_pos _)
/-- The worth of a dyad. -/
noncomputable def rat (g : Bool) (V : Nat) (e : Int) : Rat := ((dw g V e : Int) : Rat) / (ub : Rat)
theorem rat_key (g : Bool) (V : Nat) (e : Int) : rat g V e * (ub : Rat) = ((dw g V e : Int) : Rat) := Rat.div_mul_cancel (Rat.ne_of_gt ub_pos)
theorem rat_le {g k : Bool} {V U : Nat} {e f : Int} : rat g V e ≤ rat k U f ↔ dw g V e ≤ dw k U f := by
  have a := rat_key g V e
  have b := rat_key k U f
  have u := ub_pos
  constructor
  · intro h
    have m := rmul_le h (Rat.le_of_lt u)
    have : ((dw g V e : Int) : Rat) ≤ ((dw k U f : Int) : Rat) := by grind
    exact_mod_cast this
  · intro h
    have : ((dw g V e : Int) : Rat) ≤ ((dw k U f : Int) : Rat) := by exact_mod_cast h
    exact rcancel (c := (ub : Rat)) (by grind) u
theorem rat_cmp {g k : Bool} {V U : Nat} {e f : Int} : cmpI (dw g V e) (dw k U f) ≤ 0 ↔ rat g V e ≤ rat k U f := by
  rw [rat_le]
  rcases Int.lt_trichotomy (dw g V e) (dw k U f) with h | h | h
  · rw [cmpI_lt h]; omega
  · rw [cmpI_eq h]; omega
  · rw [cmpI_gt h]; omega
theorem rat_whole (V : Nat) : rat false V 0 = (V : Rat) := by
  have a := rat_key false V 0
  have u := ub_pos
  have h : dw false V 0 = ((V * ub : Nat) : Int) := by rw [ub_eq]; rfl
  have h' : ((dw false V 0 : Int) : Rat) = (V : Rat) * (ub : Rat) := by rw [h]; exact_mod_cast rfl
  exact Rat.le_antisymm (rcancel (c := (ub : Rat)) (by grind) u) (rcancel (c := (ub : Rat)) (by grind) u)
theorem nat_pow_cast (k : Nat) : ((2 ^ k : Nat) : Rat) = (2 : Rat) ^ k := by
  induction k with
  | zero => rw [Rat.pow_zero]; exact_mod_cast rfl
  | succ k ih =>
    have e : ((2 ^ (k + 1) : Nat) : Rat) = ((2 ^ k : Nat) : Rat) * 2 := by rw [Nat.pow_succ]; exact_mod_cast rfl
    rw [e, ih, Rat.pow_succ]
/-- A power of two more. -/
theorem rat_up (V : Nat) {k : Nat} {e f : Int} (h : held f = held e + k) : rat false V f = rat false V e * 2 ^ k := by
  have a := rat_key false V f
  have b := rat_key false V e
  have u := ub_pos
  have h1 : dw false V f = dw false V e * ((2 ^ k : Nat) : Int) := by
    rw [dw_shift false h]
    show ((V * 2 ^ k * 2 ^ sh e : Nat) : Int) = ((V * 2 ^ sh e : Nat) : Int) * ((2 ^ k : Nat) : Int)
    rw [← Int.natCast_mul, Nat.mul_right_comm]
  have h2 : ((dw false V f : Int) : Rat) = ((dw false V e : Int) : Rat) * ((2 ^ k : Nat) : Rat) := by rw [h1]; exact_mod_cast rfl
  rw [nat_pow_cast] at h2
  have h3 : rat false V f * (ub : Rat) = rat false V e * 2 ^ k * (ub : Rat) := by
    rw [a, h2, ← b]
    generalize (2 : Rat) ^ k = K
    grind
  clear h1 h2 a b h
  generalize rat false V e * 2 ^ k = Z at *
  exact Rat.le_antisymm (rcancel (c := (ub : Rat)) (by grind) u) (rcancel (c := (ub : Rat)) (by grind) u)
theorem rat_pos {V : Nat} {e : Int} (h : V ≠ 0) : 0 < rat false V e := by
  have a := rat_key false V e
  have u := ub_pos
  have s := sz_pos e h
  have h1 : (0 : Rat) < ((dw false V e : Int) : Rat) := by
    have : (0 : Int) < dw false V e := by show (0 : Int) < ((sz V e : Nat) : Int); omega
    exact_mod_cast this
  refine Classical.byContradiction fun h9 => ?_
  have h8 : rat false V e ≤ 0 := by grind
  have := rmul_le h8 (Rat.le_of_lt u)
  grind
end Go.Proofs.YtijhdlkfihjbiaaGreatDoor
