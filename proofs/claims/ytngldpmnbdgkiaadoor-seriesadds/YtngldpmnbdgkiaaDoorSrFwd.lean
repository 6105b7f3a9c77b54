/- Sums term by term, each step cut down or up: between what they are. For whatever program reckons forward. -/
import Derived.Test.YtngldpmnbdgkiaaDoorSrTail
import Derived.Test.YtngldpmnbdgkiaaDoorSrDiff
namespace Go.Proofs.YtngldpmnbdgkiaaDoor

/-- So many terms of whole numbers. -/
def sn (f : Nat → Nat) : Nat → Nat
  | 0 => 0
  | c + 1 => sn f c + f c
theorem sn_cast (f : Nat → Nat) (c : Nat) : ((sn f (c + 1) : Nat) : Rat) = (sn f c : Rat) + (f c : Rat) := by
  rw [sn]; exact_mod_cast rfl
/-- What follows of atanh, behind c terms: an eighth more than the next one at most. -/
theorem hh_next {y : Rat} (h0 : 0 ≤ y) (h1 : 9 * y ≤ 1) : ∀ d n : Nat, 8 * (((2 * n + 1 : Nat) : Rat) * hh y d n) ≤ 9 := by
  intro d
  induction d with
  | zero =>
    intro n
    simp only [hh]
    grind
  | succ d ih =>
    intro n
    have h := ih (n + 1)
    have b := (hh_bd h0 h1 d (n + 1)).1
    have e : hh y (d + 1) n = 1 / ((2 * n + 1 : Nat) : Rat) + y * hh y d (n + 1) := rfl
    have n0 := rnat_pos (show 0 < 2 * n + 1 by omega)
    have hle : ((2 * n + 1 : Nat) : Rat) ≤ ((2 * (n + 1) + 1 : Nat) : Rat) := by exact_mod_cast (show 2 * n + 1 ≤ 2 * (n + 1) + 1 by omega)
    have inv : ((2 * n + 1 : Nat) : Rat) * (1 / ((2 * n + 1 : Nat) : Rat)) = 1 := by
      rw [Rat.mul_comm]; exact Rat.div_mul_cancel (Rat.ne_of_gt n0)
    rw [e]
    generalize ((2 * n + 1 : Nat) : Rat) = N at *
    generalize ((2 * (n + 1) + 1 : Nat) : Rat) = M at *
    generalize hh y d (n + 1) = H at *
    generalize 1 / N = i at *
    have yH : 0 ≤ y * H := by
      have := rmul_le b h0
      grind
    have m1 := rmul_le hle yH
    have m2 := rmul_le h h0
    have e1 : N * (i + y * H) = N * i + y * H * N := by grind
    have e2 : y * (8 * (M * H)) = 8 * (y * H * M) := by grind
    rw [e1, inv]
    rw [e2] at m2
    grind
theorem at_rest {x : Rat} (h0 : 0 ≤ x) (h1 : 3 * x ≤ 1) (c d : Nat) : 8 * (((2 * c + 1 : Nat) : Rat) * atS x (c + d)) ≤ 8 * (((2 * c + 1 : Nat) : Rat) * atS x c) + 9 * (x * (x * x) ^ c) := by
  obtain ⟨y0, y1⟩ := third h0 h1
  have h := hh_next y0 y1 d c
  have m := hh_more (y := x * x) c d 0
  rw [Nat.zero_add] at m
  have p0 := rpow_nonneg y0 c
  have xp : 0 ≤ x * (x * x) ^ c := by
    have := rmul_le p0 h0
    grind
  have t := rmul_le h xp
  unfold atS
  rw [m]
  generalize ((2 * c + 1 : Nat) : Rat) = N at *
  generalize (x * x) ^ c = Q at *
  generalize hh (x * x) c 0 = H at *
  generalize hh (x * x) d c = G at *
  have e : x * Q * (8 * (N * G)) = 8 * (N * (x * (Q * G))) := by grind
  rw [e] at t
  grind

/-- atanh, each step cut down. -/
theorem fwd_pow {P q : Nat} {x y : Rat} (hP : 0 < P) (hy : 0 ≤ y) {p : Nat → Nat} (h0 : (p 0 : Rat) ≤ P * x) (hq : (q : Rat) ≤ P * y) (hp : ∀ k, p (k + 1) * P ≤ p k * q) : ∀ k, (p k : Rat) ≤ P * (x * y ^ k) := by
  intro k
  induction k with
  | zero => rw [Rat.pow_zero]; grind
  | succ k ih =>
    have h := hp k
    have h' : ((p (k + 1) : Nat) : Rat) * (P : Rat) ≤ (p k : Rat) * (q : Rat) := by exact_mod_cast h
    have P0 := rnat_pos hP
    have p0 := rnat_nonneg (p k)
    have e : y ^ (k + 1) = y ^ k * y := Rat.pow_succ _ _
    rw [e]
    generalize y ^ k = Q at *
    have m1 := rmul_le hq p0
    have Py : 0 ≤ (P : Rat) * y := by
      have := rmul_le hy (Rat.le_of_lt P0)
      grind
    have m2 := rmul_le ih Py
    refine rcancel (c := (P : Rat)) ?_ P0
    grind
theorem fwd_lo {P q : Nat} {x : Rat} (hP : 0 < P) (hx : 0 ≤ x) {p t : Nat → Nat} (h0 : (p 0 : Rat) ≤ P * x) (hq : (q : Rat) ≤ P * (x * x)) (hp : ∀ k, p (k + 1) * P ≤ p k * q) (ht : ∀ k, t k * (2 * k + 1) ≤ p k) : ∀ c, (sn t c : Rat) ≤ P * atS x c := by
  have y0 : 0 ≤ x * x := by have := rmul_le hx hx; grind
  have hk := fwd_pow hP y0 h0 hq hp
  intro c
  induction c with
  | zero =>
    have e : ((sn t 0 : Nat) : Rat) = 0 := by exact_mod_cast rfl
    rw [e]
    unfold atS
    simp only [hh]
    grind
  | succ c ih =>
    rw [sn_cast, atS_succ]
    have h := ht c
    have h' : ((t c : Nat) : Rat) * ((2 * c + 1 : Nat) : Rat) ≤ (p c : Rat) := by exact_mod_cast h
    have n0 := rnat_pos (show 0 < 2 * c + 1 by omega)
    have inv : ((2 * c + 1 : Nat) : Rat) * (1 / ((2 * c + 1 : Nat) : Rat)) = 1 := by
      rw [Rat.mul_comm]; exact Rat.div_mul_cancel (Rat.ne_of_gt n0)
    have hpk := hk c
    generalize ((2 * c + 1 : Nat) : Rat) = N at *
    generalize 1 / N = i at *
    generalize x * (x * x) ^ c = Q at *
    have key : (t c : Rat) ≤ P * (Q * i) := by
      refine rcancel (c := N) ?_ n0
      have e : N * ((P : Rat) * (Q * i)) = P * Q * (N * i) := by grind
      rw [e, inv]
      grind
    grind
/-- .. each step cut up, with what is left out. -/
theorem fwd_pow_up {P q : Nat} {x y : Rat} (hP : 0 < P) (hy : 0 ≤ y) {p : Nat → Nat} (h0 : (P : Rat) * x ≤ (p 0 : Rat)) (hq : (P : Rat) * y ≤ (q : Rat)) (hp : ∀ k, p k * q ≤ p (k + 1) * P) : ∀ k, (P : Rat) * (x * y ^ k) ≤ (p k : Rat) := by
  intro k
  induction k with
  | zero => rw [Rat.pow_zero]; grind
  | succ k ih =>
    have h := hp k
    have h' : (p k : Rat) * (q : Rat) ≤ ((p (k + 1) : Nat) : Rat) * (P : Rat) := by exact_mod_cast h
    have P0 := rnat_pos hP
    have p0 := rnat_nonneg (p k)
    have e : y ^ (k + 1) = y ^ k * y := Rat.pow_succ _ _
    rw [e]
    generalize y ^ k = Q at *
    have m1 := rmul_le hq p0
    have Py : 0 ≤ (P : Rat) * y := by
      have := rmul_le hy (Rat.le_of_lt P0)
      grind
    have m2 := rmul_le ih Py
    refine rcancel (c := (P : Rat)) ?_ P0
    grind
theorem fwd_sum_up {P q : Nat} {x : Rat} (hP : 0 < P) (hx : 0 ≤ x) {p t : Nat → Nat} (h0 : (P : Rat) * x ≤ (p 0 : Rat)) (hq : (P : Rat) * (x * x) ≤ (q : Rat)) (hp : ∀ k, p k * q ≤ p (k + 1) * P) (ht : ∀ k, p k ≤ t k * (2 * k + 1)) : ∀ c, (P : Rat) * atS x c ≤ (sn t c : Rat) := by
  have y0 : 0 ≤ x * x := by have := rmul_le hx hx; grind
  have hk := fwd_pow_up hP y0 h0 hq hp
  intro c
  induction c with
  | zero =>
    have e : ((sn t 0 : Nat) : Rat) = 0 := by exact_mod_cast rfl
    rw [e]
    unfold atS
    simp only [hh]
    grind
  | succ c ih =>
    rw [sn_cast, atS_succ]
    have h := ht c
    have h' : (p c : Rat) ≤ ((t c : Nat) : Rat) * ((2 * c + 1 : Nat) : Rat) := by exact_mod_cast h
    have n0 := rnat_pos (show 0 < 2 * c + 1 by omega)
    have inv : ((2 * c + 1 : Nat) : Rat) * (1 / ((2 * c + 1 : Nat) : Rat)) = 1 := by
      rw [Rat.mul_comm]; exact Rat.div_mul_cancel (Rat.ne_of_gt n0)
    have hpk := hk c
    generalize ((2 * c + 1 : Nat) : Rat) = N at *
    generalize 1 / N = i at *
    generalize x * (x * x) ^ c = Q at *
    have key : P * (Q * i) ≤ (t c : Rat) := by
      refine rcancel (c := N) ?_ n0
      have e : N * ((P : Rat) * (Q * i)) = P * Q * (N * i) := by grind
      rw [e, inv]
      grind
    grind
theorem fwd_hi {P q c rest : Nat} {x : Rat} (hP : 0 < P) (hx : 0 ≤ x) (h3 : 3 * x ≤ 1) {p t : Nat → Nat} (h0 : (P : Rat) * x ≤ (p 0 : Rat)) (hq : (P : Rat) * (x * x) ≤ (q : Rat)) (hp : ∀ k, p k * q ≤ p (k + 1) * P) (ht : ∀ k, p k ≤ t k * (2 * k + 1)) (hr : 9 * p c ≤ 8 * ((2 * c + 1) * rest)) :
    ∀ M, (P : Rat) * atS x M ≤ (sn t c : Rat) + (rest : Rat) := by
  intro M
  have y0 : 0 ≤ x * x := by have := rmul_le hx hx; grind
  have s := fwd_sum_up hP hx h0 hq hp ht c
  have hk := fwd_pow_up hP y0 h0 hq hp c
  have P0 := rnat_pos hP
  have r0 := rnat_nonneg rest
  rcases Nat.le_total M c with h | h
  · obtain ⟨k, rfl⟩ : ∃ k, c = M + k := ⟨c - M, by omega⟩
    have m := rmul_le (atS_mono hx h3 M k) (Rat.le_of_lt P0)
    grind
  · obtain ⟨d, rfl⟩ : ∃ d, M = c + d := ⟨M - c, by omega⟩
    have t1 := at_rest hx h3 c d
    have t2 := rmul_le t1 (Rat.le_of_lt P0)
    have hr' : 9 * (p c : Rat) ≤ 8 * (((2 * c + 1 : Nat) : Rat) * (rest : Rat)) := by exact_mod_cast hr
    have n0 := rnat_pos (show 0 < 2 * c + 1 by omega)
    generalize ((2 * c + 1 : Nat) : Rat) = N at *
    generalize atS x (c + d) = A at *
    generalize atS x c = B at *
    generalize x * (x * x) ^ c = Q at *
    have key : P * A ≤ P * B + rest := by
      refine rcancel (c := 8 * N) ?_ (by grind)
      have e1 : (P : Rat) * (8 * (N * A)) = 8 * N * (P * A) := by grind
      have e2 : (P : Rat) * (8 * (N * B) + 9 * Q) = 8 * N * (P * B) + 9 * (P * Q) := by grind
      rw [e1, e2] at t2
      have e3 : 8 * N * ((P : Rat) * B + rest) = 8 * N * (P * B) + 8 * (N * rest) := by grind
      rw [e3]
      grind
    grind

/-- exp, each step cut down. -/
theorem fwd_ex_lo {P a : Nat} {x : Rat} (hP : 0 < P) (hx : 0 ≤ x) {t : Nat → Nat} (h0 : (t 0 : Rat) ≤ P) (ha : (a : Rat) ≤ P * x) (ht : ∀ k, t (k + 1) * (P * (k + 1)) ≤ t k * a) : ∀ c, (sn t (c + 1) : Rat) ≤ P * eS x c := by
  have P0 := rnat_pos hP
  have hk : ∀ k, (t k : Rat) ≤ P * tk x k := by
    intro k
    induction k with
    | zero => rw [tk_zero]; grind
    | succ k ih =>
      have h' : ((t (k + 1) : Nat) : Rat) * ((P : Rat) * ((k + 1 : Nat) : Rat)) ≤ (t k : Rat) * (a : Rat) := by exact_mod_cast ht k
      have e := tk_succ x k
      have n0 := rnat_pos (show 0 < k + 1 by omega)
      have t0 := rnat_nonneg (t k)
      generalize ((k + 1 : Nat) : Rat) = N at *
      generalize tk x (k + 1) = U at *
      generalize tk x k = V at *
      have m1 := rmul_le ha t0
      have Px : 0 ≤ (P : Rat) * x := by
        have := rmul_le hx (Rat.le_of_lt P0)
        grind
      have m2 := rmul_le ih Px
      have NP : 0 < N * (P : Rat) := Rat.mul_pos n0 P0
      refine rcancel (c := N * (P : Rat)) ?_ NP
      have e1 : N * (P : Rat) * (P * U) = P * P * (N * U) := by grind
      rw [e1, e]
      grind
  intro c
  induction c with
  | zero =>
    rw [sn_cast, eS_zero]
    have e : ((sn t 0 : Nat) : Rat) = 0 := by exact_mod_cast rfl
    rw [e]
    grind
  | succ c ih =>
    rw [sn_cast, eS_succ]
    have := hk (c + 1)
    grind
/-- .. each step cut up, and the last term twice for what is left out. -/
theorem fwd_ex_hi {P b c rest : Nat} {x : Rat} (hP : 0 < P) (hx : 0 ≤ x) (h1 : x ≤ 1) {t : Nat → Nat} (h0 : (P : Rat) ≤ (t 0 : Rat)) (hb : (P : Rat) * x ≤ (b : Rat)) (ht : ∀ k, t k * b ≤ t (k + 1) * (P * (k + 1))) (hr : 2 * t c ≤ rest) :
    ∀ M, (P : Rat) * eS x M ≤ (sn t (c + 1) : Rat) + (rest : Rat) := by
  have P0 := rnat_pos hP
  have hk : ∀ k, P * tk x k ≤ (t k : Rat) := by
    intro k
    induction k with
    | zero => rw [tk_zero]; grind
    | succ k ih =>
      have h' : (t k : Rat) * (b : Rat) ≤ ((t (k + 1) : Nat) : Rat) * ((P : Rat) * ((k + 1 : Nat) : Rat)) := by exact_mod_cast ht k
      have e := tk_succ x k
      have n0 := rnat_pos (show 0 < k + 1 by omega)
      have t0 := rnat_nonneg (t k)
      generalize ((k + 1 : Nat) : Rat) = N at *
      generalize tk x (k + 1) = U at *
      generalize tk x k = V at *
      have m1 := rmul_le hb t0
      have Px : 0 ≤ (P : Rat) * x := by
        have := rmul_le hx (Rat.le_of_lt P0)
        grind
      have m2 := rmul_le ih Px
      have NP : 0 < N * (P : Rat) := Rat.mul_pos n0 P0
      refine rcancel (c := N * (P : Rat)) ?_ NP
      have e1 : N * (P : Rat) * (P * U) = P * P * (N * U) := by grind
      rw [e1, e]
      grind
  have hs : ∀ c, P * eS x c ≤ (sn t (c + 1) : Rat) := by
    intro c
    induction c with
    | zero =>
      rw [sn_cast, eS_zero]
      have e : ((sn t 0 : Nat) : Rat) = 0 := by exact_mod_cast rfl
      rw [e]
      grind
    | succ c ih =>
      rw [sn_cast, eS_succ]
      have := hk (c + 1)
      grind
  intro M
  have s := hs c
  have kc := hk c
  have hr' : 2 * (t c : Rat) ≤ (rest : Rat) := by exact_mod_cast hr
  have tail : eS x M ≤ eS x c + 2 * tk x c := by
    rcases Nat.le_total M c with h | h
    · obtain ⟨k, rfl⟩ : ∃ k, c = M + k := ⟨c - M, by omega⟩
      have b1 := eS_mono hx M k
      have b2 := tk_nonneg hx (M + k)
      grind
    · obtain ⟨k, rfl⟩ : ∃ k, M = c + k := ⟨M - c, by omega⟩
      exact ge_tail hx h1 c k 1 (by decide)
  have m := rmul_le tail (Rat.le_of_lt P0)
  grind
end Go.Proofs.YtngldpmnbdgkiaaDoor
