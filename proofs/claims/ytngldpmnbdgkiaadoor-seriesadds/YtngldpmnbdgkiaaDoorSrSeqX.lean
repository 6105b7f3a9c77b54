/- The terms of exp as the landed package reckons them, each cut down or up twice. Between what they are, and how far apart; then what both ends of atanh and of exp come to: numbers alone. -/
import Derived.Test.YtngldpmnbdgkiaaDoorSrSeq
import Derived.Test.YtngldpmnbdgkiaaDoorSrAddsM
namespace Go.Proofs.YtngldpmnbdgkiaaDoor

/-- A term after the other. -/
def ek (g : Bool) (a S P : Nat) : Nat → Nat
  | 0 => P
  | k + 1 => ov g (ov g (ek g a S P k * a) S) (k + 1)
theorem ek_succ (g : Bool) (a S P k : Nat) : ek g a S P (k + 1) = ov g (ov g (ek g a S P k * a) S) (k + 1) := rfl

theorem ek_low (a S T k : Nat) : ek false a S (S * T) (k + 1) * (S * T * (k + 1)) ≤ ek false a S (S * T) k * (a * T) := by
  rw [ek_succ]
  have h1 := ov_low (ek false a S (S * T) k * a) S
  have h2 := ov_low (ov false (ek false a S (S * T) k * a) S) (k + 1)
  generalize ov false (ov false (ek false a S (S * T) k * a) S) (k + 1) = B at *
  generalize ov false (ek false a S (S * T) k * a) S = M at *
  generalize ek false a S (S * T) k = A at *
  have h3 := Nat.mul_le_mul_right (S * T) h2
  have h4 := Nat.mul_le_mul_right T h1
  calc B * (S * T * (k + 1)) = B * (k + 1) * (S * T) := by rw [Nat.mul_comm (S * T), ← Nat.mul_assoc]
    _ ≤ M * (S * T) := h3
    _ = M * S * T := (Nat.mul_assoc _ _ _).symm
    _ ≤ A * a * T := h4
    _ = A * (a * T) := Nat.mul_assoc _ _ _
theorem ek_high {S : Nat} (hS : 0 < S) (a T k : Nat) : ek true a S (S * T) k * (a * T) ≤ ek true a S (S * T) (k + 1) * (S * T * (k + 1)) := by
  rw [ek_succ]
  have h1 := ov_up hS (ek true a S (S * T) k * a)
  have h2 := ov_up (Nat.succ_pos k) (ov true (ek true a S (S * T) k * a) S)
  generalize ov true (ov true (ek true a S (S * T) k * a) S) (k + 1) = B at *
  generalize ov true (ek true a S (S * T) k * a) S = M at *
  generalize ek true a S (S * T) k = A at *
  have h3 := Nat.mul_le_mul_right (S * T) h2
  have h4 := Nat.mul_le_mul_right T h1
  calc A * (a * T) = A * a * T := (Nat.mul_assoc _ _ _).symm
    _ ≤ M * S * T := h4
    _ = M * (S * T) := Nat.mul_assoc _ _ _
    _ ≤ B * (k + 1) * (S * T) := h3
    _ = B * (S * T * (k + 1)) := by rw [Nat.mul_comm (S * T) (k + 1), Nat.mul_assoc]

theorem ek_lo {a S T : Nat} {x : Rat} (hS : 0 < S) (hT : 0 < T) (hx : 0 ≤ x) (h : (S : Rat) * x = (a : Rat)) : ∀ c, (sn (ek false a S (S * T)) c : Rat) ≤ ((S * T : Nat) : Rat) * eS x (c - 1) := by
  intro c
  have ha : ((a * T : Nat) : Rat) ≤ ((S * T : Nat) : Rat) * x := by
    have e1 : ((a * T : Nat) : Rat) = (a : Rat) * (T : Rat) := by exact_mod_cast rfl
    have e2 : ((S * T : Nat) : Rat) = (S : Rat) * (T : Rat) := by exact_mod_cast rfl
    rw [e1, e2, ← h]
    grind
  have key := fwd_ex_lo (P := S * T) (a := a * T) (t := ek false a S (S * T)) (Nat.mul_pos hS hT) hx Rat.le_refl ha (fun k => ek_low a S T k)
  cases c with
  | zero =>
    have e : ((sn (ek false a S (S * T)) 0 : Nat) : Rat) = 0 := by exact_mod_cast rfl
    rw [e]
    have p0 := rnat_nonneg (S * T)
    have := rmul_le (show (0 : Rat) ≤ eS x (0 - 1) by have := eS_nonneg hx (0 - 1); grind) p0
    grind
  | succ c => exact key c

theorem ek_terms {P b : Nat} {x : Rat} (hP : 0 < P) (hx : 0 ≤ x) {t : Nat → Nat} (h0 : (P : Rat) ≤ (t 0 : Rat)) (hb : (P : Rat) * x ≤ (b : Rat)) (ht : ∀ k, t k * b ≤ t (k + 1) * (P * (k + 1))) : ∀ k, P * tk x k ≤ (t k : Rat) := by
  have P0 := rnat_pos hP
  intro k
  induction k with
  | zero => rw [tk_zero]; grind
  | succ k ih =>
    have h' : (t k : Rat) * (b : Rat) ≤ ((t (k + 1) : Nat) : Rat) * ((P : Rat) * ((k + 1 : Nat) : Rat)) := by exact_mod_cast ht k
    have e := tk_succ x k
    have n0 := rnat_pos (show 0 < k + 1 by omega)
    have t0 := rnat_nonneg (t k)
    generalize ((k + 1 : Nat) : Rat) = N at *
    generalize tk x (k + 1) = U at *
    generalize tk x k = V at *
    have m1 := rmul_le hb t0
    have Px : 0 ≤ (P : Rat) * x := by
      have := rmul_le hx (Rat.le_of_lt P0)
      grind
    have m2 := rmul_le ih Px
    have NP : 0 < N * (P : Rat) := Rat.mul_pos n0 P0
    refine rcancel (c := N * (P : Rat)) ?_ NP
    have e1 : N * (P : Rat) * (P * U) = P * P * (N * U) := by grind
    rw [e1, e]
    grind
theorem ek_sums {P : Nat} {x : Rat} {t : Nat → Nat} (hk : ∀ k, P * tk x k ≤ (t k : Rat)) : ∀ c, P * eS x c ≤ (sn t (c + 1) : Rat) := by
  intro c
  induction c with
  | zero =>
    rw [sn_cast, eS_zero]
    have e : ((sn t 0 : Nat) : Rat) = 0 := by exact_mod_cast rfl
    have := hk 0
    rw [tk_zero] at this
    rw [e]
    grind
  | succ c ih =>
    rw [sn_cast, eS_succ]
    have := hk (c + 1)
    grind
/-- What follows d + 1 terms: twice the next one at most. -/
theorem eS_rest {x : Rat} (h0 : 0 ≤ x) (h1 : x ≤ 1) (d M : Nat) : eS x M ≤ eS x d + 2 * tk x (d + 1) := by
  have k0 := tk_nonneg h0 (d + 1)
  rcases Nat.le_total M d with h | h
  · obtain ⟨k, rfl⟩ : ∃ k, d = M + k := ⟨d - M, by omega⟩
    have := eS_mono h0 M k
    grind
  · obtain ⟨k, rfl⟩ : ∃ k, M = d + k := ⟨M - d, by omega⟩
    cases k with
    | zero => rw [Nat.add_zero]; grind
    | succ j =>
      have e := ge_more (x := x) (d + 1) j 1
      obtain ⟨_, b⟩ := ge_bd h0 h1 j (1 + (d + 1)) (by omega)
      have n2 : (2 : Rat) ≤ ((1 + (d + 1) : Nat) : Rat) := by exact_mod_cast (show 2 ≤ 1 + (d + 1) by omega)
      have s := eS_succ x d
      have e1 : eS x (d + (j + 1)) = ge_ x (d + 1 + j) 1 := by unfold eS; rw [show d + (j + 1) = d + 1 + j by omega]
      have e2 : eS x (d + 1) = ge_ x (d + 1) 1 := rfl
      have e3 : tk x (d + 1) = tt x (d + 1) 1 := rfl
      rw [e1, e, ← e2, ← e3, s]
      generalize ge_ x j (1 + (d + 1)) = G at *
      generalize ((1 + (d + 1) : Nat) : Rat) = N at *
      have g2 : G ≤ 2 := by
        refine rcancel (c := N) ?_ (by grind)
        grind
      have := rmul_le g2 k0
      grind
theorem ek_all {a S T c : Nat} {x : Rat} (hS : 0 < S) (hT : 0 < T) (hx : 0 ≤ x) (h1 : x ≤ 1) (h : (S : Rat) * x = (a : Rat)) (hc : 1 ≤ c) : ∀ M, ((S * T : Nat) : Rat) * eS x M ≤ ((sn (ek true a S (S * T)) c + (ek true a S (S * T) c + ek true a S (S * T) c) : Nat) : Rat) := by
  intro M
  have hb : ((S * T : Nat) : Rat) * x ≤ ((a * T : Nat) : Rat) := by
    have e1 : ((a * T : Nat) : Rat) = (a : Rat) * (T : Rat) := by exact_mod_cast rfl
    have e2 : ((S * T : Nat) : Rat) = (S : Rat) * (T : Rat) := by exact_mod_cast rfl
    rw [e1, e2, ← h]
    grind
  have hk := ek_terms (P := S * T) (b := a * T) (t := ek true a S (S * T)) (Nat.mul_pos hS hT) hx Rat.le_refl hb (fun k => ek_high hS a T k)
  obtain ⟨d, rfl⟩ : ∃ d, c = d + 1 := ⟨c - 1, by omega⟩
  have hs := ek_sums hk d
  have hk1 := hk (d + 1)
  have r := eS_rest hx h1 d M
  have P0 := rnat_nonneg (S * T)
  have m := rmul_le r P0
  have e1 : ((sn (ek true a S (S * T)) (d + 1) + (ek true a S (S * T) (d + 1) + ek true a S (S * T) (d + 1)) : Nat) : Rat) = (sn (ek true a S (S * T)) (d + 1) : Rat) + ((ek true a S (S * T) (d + 1) : Rat) + (ek true a S (S * T) (d + 1) : Rat)) := by exact_mod_cast rfl
  rw [e1]
  grind

/-- Each is at most the one ahead divided by its place, and cut up. -/
theorem ek_step (g : Bool) {a S P : Nat} (hS : 0 < S) (ha : a ≤ S) (k : Nat) : ek g a S P (k + 1) ≤ ov true (ek g a S P k) (k + 1) := by
  rw [ek_succ]
  refine ov_mono g (Nat.succ_pos k) ?_
  exact ov_most hS g (Nat.mul_le_mul_left _ ha)
theorem ek_fall (g : Bool) {a S P : Nat} (hS : 0 < S) (ha : a ≤ S) (k : Nat) : ek g a S P (k + 1) ≤ ek g a S P k := by
  refine Nat.le_trans (ek_step g hS ha k) (ov_most (Nat.succ_pos k) true ?_)
  exact Nat.le_mul_of_pos_right _ (Nat.succ_pos k)
theorem ek_top (g : Bool) {a S P : Nat} (hS : 0 < S) (ha : a ≤ S) : ∀ k, ek g a S P k ≤ P
  | 0 => Nat.le_refl _
  | k + 1 => Nat.le_trans (ek_fall g hS ha k) (ek_top g hS ha k)
theorem blen_less {w : Nat} : blen (2 ^ w - 1) ≤ w := blen_le_iff.2 (Nat.sub_lt (Nat.two_pow_pos w) Nat.one_pos)
/-- So there are few. -/
theorem ek_few (g : Bool) {a S w : Nat} (hS : 0 < S) (ha : a ≤ S) : ∀ k, (∀ j, j < k → 1 < ek g a S (2 ^ w) j) → k + blen (ek g a S (2 ^ w) k - 1) ≤ w + 1 := by
  intro k
  induction k with
  | zero =>
    intro _
    have := blen_less (w := w)
    show 0 + blen (2 ^ w - 1) ≤ w + 1
    omega
  | succ k ih =>
    intro h
    have i := ih (fun j hj => h j (by omega))
    have h1 := h k (by omega)
    rcases Nat.eq_zero_or_pos k with h0 | h0
    · subst h0
      have h2 : ek g a S (2 ^ w) (0 + 1) ≤ 2 ^ w := ek_fall g hS ha 0
      have h3 := blen_mono (Nat.sub_le_sub_right h2 1)
      have := blen_less (w := w)
      omega
    · have h2 := ek_step g (P := 2 ^ w) hS ha k
      have h3 : ov true (ek g a S (2 ^ w) k) (k + 1) ≤ (ek g a S (2 ^ w) k + 1) / 2 := by
        refine ov_most (Nat.succ_pos k) true ?_
        have h5 : (ek g a S (2 ^ w) k + 1) / 2 * 2 ≤ (ek g a S (2 ^ w) k + 1) / 2 * (k + 1) := Nat.mul_le_mul_left _ (by omega)
        exact Nat.le_trans (by omega) h5
      have h4 : ek g a S (2 ^ w) (k + 1) - 1 ≤ (ek g a S (2 ^ w) k - 1) / 2 := by omega
      have h5 := blen_mono h4
      have h6 := blen_half (x := ek g a S (2 ^ w) k - 1) (by omega)
      omega
theorem ek_ord {a S P : Nat} (hS : 0 < S) : ∀ k, ek false a S P k ≤ ek true a S P k
  | 0 => Nat.le_refl _
  | k + 1 => ov_mono false (Nat.succ_pos k) (ov_mono false hS (Nat.mul_le_mul_right _ (ek_ord hS k)))
theorem ek_gap {a S P : Nat} (hS : 0 < S) (ha : a ≤ S) : ∀ k, ek true a S P k ≤ ek false a S P k + 4 := by
  have mid : ∀ k q, ek true a S P k ≤ ek false a S P k + q → ov true (ek true a S P k * a) S ≤ ov false (ek false a S P k * a) S + q + 1 := by
    intro k q h
    refine Nat.le_trans (ov_le true _ _) (Nat.succ_le_succ ?_)
    show _ ≤ ek false a S P k * a / S + q
    have h1 : ek true a S P k * a ≤ ek false a S P k * a + q * S := by
      refine Nat.le_trans (Nat.mul_le_mul_right _ h) ?_
      rw [Nat.add_mul]
      exact Nat.add_le_add_left (Nat.mul_le_mul_left _ ha) _
    have h2 := Nat.div_le_div_right (c := S) h1
    rw [Nat.add_mul_div_right _ _ hS] at h2
    exact h2
  intro k
  induction k with
  | zero => exact Nat.le_add_right _ _
  | succ k ih =>
    rw [ek_succ, ek_succ]
    rcases Nat.eq_zero_or_pos k with h0 | h0
    · subst h0
      have h1 := mid 0 0 (Nat.le_refl _)
      refine Nat.le_trans (ov_le true _ _) ?_
      rw [Nat.div_one]
      show _ ≤ ov false (ek false a S P 0 * a) S / 1 + 4
      rw [Nat.div_one]
      omega
    · have h1 := mid k 4 ih
      refine Nat.le_trans (ov_le true _ _) ?_
      show _ ≤ ov false (ek false a S P k * a) S / (k + 1) + 4
      have h2 : ov true (ek true a S P k * a) S ≤ ov false (ek false a S P k * a) S + 3 * (k + 1) := by omega
      have h3 := Nat.div_le_div_right (c := k + 1) h2
      rw [Nat.add_mul_div_right _ _ (show 0 < k + 1 from Nat.succ_pos k)] at h3
      omega
/-- Both sums, each ahead of its first term that is at most 1. -/
theorem en_gap {a S P c d : Nat} (hS : 0 < S) (ha : a ≤ S) (hc : ek false a S P c ≤ 1) (hc2 : ∀ j, j < c → 1 < ek false a S P j) (hd : ek true a S P d ≤ 1) :
    sn (ek true a S P) d ≤ sn (ek false a S P) c + 5 * d := by
  have hcd : c ≤ d := Nat.le_of_not_lt fun h => by
    have h1 := hc2 d h
    have h2 := ek_ord (a := a) (P := P) hS d
    omega
  have low : ∀ j, ek false a S P (c + j) ≤ 1 := by
    intro j
    induction j with
    | zero => exact hc
    | succ j ih => exact Nat.le_trans (ek_fall false hS ha (c + j)) ih
  have first : ∀ j, sn (ek true a S P) j ≤ sn (ek false a S P) j + 5 * j := by
    intro j
    induction j with
    | zero => exact Nat.le_refl _
    | succ j ih =>
      have := ek_gap (P := P) hS ha j
      show sn (ek true a S P) j + ek true a S P j ≤ sn (ek false a S P) j + ek false a S P j + 5 * (j + 1)
      omega
  have rest : ∀ j, sn (ek true a S P) (c + j) ≤ sn (ek false a S P) c + 5 * (c + j) := by
    intro j
    induction j with
    | zero => exact first c
    | succ j ih =>
      have h1 := ek_gap (P := P) hS ha (c + j)
      have h2 := low j
      show sn (ek true a S P) (c + j) + ek true a S P (c + j) ≤ _
      omega
  have := rest (d - c)
  rw [show c + (d - c) = d by omega] at this
  exact this

/-- What is told of one end. -/
def tolN (g : Bool) (S L : Nat) : Nat := ov g (S + (if g then L + L else 0)) (2 ^ 64)
theorem tol_lo (S L : Nat) : tolN false S L * 2 ^ 64 ≤ S := ov_low S _
theorem tol_hi (S L : Nat) : S + (L + L) ≤ tolN true S L * 2 ^ 64 := ov_up (Nat.two_pow_pos 64) _
theorem tol_gap {S1 L1 S2 L2 q : Nat} (h : S2 ≤ S1 + q) (hL : L2 ≤ 1) (hq : q + 2 ≤ 18446744073709551616) : tolN true S2 L2 ≤ tolN false S1 L1 + 2 := by
  have h1 : tolN true S2 L2 ≤ (S2 + (L2 + L2)) / 2 ^ 64 + 1 := ov_le true _ _
  have h2 : (S2 + (L2 + L2)) / 2 ^ 64 ≤ (S1 + (q + 2)) / 2 ^ 64 := Nat.div_le_div_right (by omega)
  have h3 := add_div_le (a := S1) (b := q + 2) (d := 2 ^ 64) (Nat.two_pow_pos 64) (by omega)
  have h4 : tolN false S1 L1 = S1 / 2 ^ 64 := rfl
  omega

/-- One end of atanh. -/
def AtV (g : Bool) (X Y s V : Nat) : Prop := ∃ c, c ≤ 20000 ∧ pk g (X * X) (Y * Y) (ov g (X * 2 ^ (s + 64)) Y) c ≤ 1 ∧ (∀ j, j < c → 1 < pk g (X * X) (Y * Y) (ov g (X * 2 ^ (s + 64)) Y) j) ∧
  V = tolN g (sn (tk1 g (X * X) (Y * Y) (ov g (X * 2 ^ (s + 64)) Y)) c) (pk g (X * X) (Y * Y) (ov g (X * 2 ^ (s + 64)) Y) c)
theorem at_both {X Y s lo hi : Nat} (hY : Y ≠ 0) (h3 : 3 * X ≤ Y) (h1 : AtV false X Y s lo) (h2 : AtV true X Y s hi) : AtB X Y s lo hi ∧ lo ≤ hi ∧ hi ≤ lo + 2 := by
  obtain ⟨c, hc0, hc1, hc2, hl⟩ := h1
  obtain ⟨d, hd0, hd1, _, hh⟩ := h2
  have hY0 : 0 < Y := Nat.pos_of_ne_zero hY
  have hD : 0 < Y * Y := Nat.mul_pos hY0 hY0
  have h9 : 9 * (X * X) ≤ Y * Y := by
    have := Nat.mul_le_mul h3 h3
    rw [show 3 * X * (3 * X) = 9 * (X * X) by rw [Nat.mul_assoc, Nat.mul_left_comm X 3 X, ← Nat.mul_assoc]] at this
    exact this
  have hpq : ov false (X * 2 ^ (s + 64)) Y ≤ ov true (X * 2 ^ (s + 64)) Y := ov_mono false hY0 (Nat.le_refl _)
  have hqp : ov true (X * 2 ^ (s + 64)) Y ≤ ov false (X * 2 ^ (s + 64)) Y + 2 := Nat.le_trans (ov_le true _ _) (Nat.le_succ _)
  have gap := (sn_gap hD h9 hpq hqp hc1 hc2 hd1).2
  have hw : hi ≤ lo + 2 := by
    rw [hl, hh]
    exact tol_gap gap hd1 (by omega)
  have two : ((2 ^ (s + 64) : Nat) : Rat) = ((2 ^ 64 : Nat) : Rat) * ((2 ^ s : Nat) : Rat) := two_add s 64
  have hB : AtB X Y s lo hi := by
    intro x hx
    obtain ⟨x0, x1⟩ := frac_bd hY h3 hx
    have y0 := rnat_pos hY0
    have t0 := rnat_pos (Nat.two_pow_pos 64)
    have w0 := rnat_nonneg (2 ^ (s + 64))
    have e : x * x * ((Y * Y : Nat) : Rat) = ((X * X : Nat) : Rat) := by
      have e1 : ((Y * Y : Nat) : Rat) = (Y : Rat) * (Y : Rat) := by exact_mod_cast rfl
      have e2 : ((X * X : Nat) : Rat) = (X : Rat) * (X : Rat) := by exact_mod_cast rfl
      rw [e1, e2, ← hx]
      grind
    have eX : ((X * 2 ^ (s + 64) : Nat) : Rat) = (X : Rat) * ((2 ^ (s + 64) : Nat) : Rat) := by exact_mod_cast rfl
    have p1 : ((ov false (X * 2 ^ (s + 64)) Y : Nat) : Rat) ≤ ((2 ^ (s + 64) : Nat) : Rat) * x := by
      have h : ((ov false (X * 2 ^ (s + 64)) Y : Nat) : Rat) * (Y : Rat) ≤ ((X * 2 ^ (s + 64) : Nat) : Rat) := by exact_mod_cast ov_low (X * 2 ^ (s + 64)) Y
      rw [eX] at h
      generalize ((2 ^ (s + 64) : Nat) : Rat) = W at *
      refine rcancel (c := (Y : Rat)) ?_ y0
      grind
    have p2 : ((2 ^ (s + 64) : Nat) : Rat) * x ≤ ((ov true (X * 2 ^ (s + 64)) Y : Nat) : Rat) := by
      have h : ((X * 2 ^ (s + 64) : Nat) : Rat) ≤ ((ov true (X * 2 ^ (s + 64)) Y : Nat) : Rat) * (Y : Rat) := by exact_mod_cast ov_up hY0 (X * 2 ^ (s + 64))
      rw [eX] at h
      generalize ((2 ^ (s + 64) : Nat) : Rat) = W at *
      refine rcancel (c := (Y : Rat)) ?_ y0
      grind
    constructor
    · refine ⟨c, ?_⟩
      have k1 := tk_lo hD x0 e p1 c
      have k2 := tol_lo (sn (tk1 false (X * X) (Y * Y) (ov false (X * 2 ^ (s + 64)) Y)) c) (pk false (X * X) (Y * Y) (ov false (X * 2 ^ (s + 64)) Y) c)
      rw [← hl] at k2
      have k3 : (lo : Rat) * ((2 ^ 64 : Nat) : Rat) ≤ (sn (tk1 false (X * X) (Y * Y) (ov false (X * 2 ^ (s + 64)) Y)) c : Rat) := by exact_mod_cast k2
      rw [two] at k1
      refine rcancel (c := ((2 ^ 64 : Nat) : Rat)) ?_ t0
      grind
    · intro M
      have k1 := tk_all (c := d) hD x0 x1 w0 e p2 M
      have k2 := tol_hi (sn (tk1 true (X * X) (Y * Y) (ov true (X * 2 ^ (s + 64)) Y)) d) (pk true (X * X) (Y * Y) (ov true (X * 2 ^ (s + 64)) Y) d)
      rw [← hh] at k2
      have k3 : ((sn (tk1 true (X * X) (Y * Y) (ov true (X * 2 ^ (s + 64)) Y)) d + (pk true (X * X) (Y * Y) (ov true (X * 2 ^ (s + 64)) Y) d + pk true (X * X) (Y * Y) (ov true (X * 2 ^ (s + 64)) Y) d) : Nat) : Rat) ≤ (hi : Rat) * ((2 ^ 64 : Nat) : Rat) := by exact_mod_cast k2
      rw [two] at k1
      refine rcancel (c := ((2 ^ 64 : Nat) : Rat)) ?_ t0
      grind
  refine ⟨hB, ?_, hw⟩
  obtain ⟨x, hx⟩ := frac_of (X := X) hY
  obtain ⟨⟨k, k1⟩, k2⟩ := hB x hx
  exact cast_le (Rat.le_trans k1 (k2 k))
theorem ln2_both {s lo hi : Nat} (h1 : AtV false 1 3 (s + 1) lo) (h2 : AtV true 1 3 (s + 1) hi) : Ln2B s lo hi ∧ lo ≤ hi ∧ hi ≤ lo + 2 := by
  obtain ⟨hB, h4, h5⟩ := at_both (by decide) (by decide) h1 h2
  refine ⟨?_, h4, h5⟩
  intro x hx
  have e1 : ((1 : Nat) : Rat) = 1 := by exact_mod_cast rfl
  have e3 : ((3 : Nat) : Rat) = 3 := by exact_mod_cast rfl
  obtain ⟨⟨c, k1⟩, k2⟩ := hB x (by rw [e1, e3]; grind)
  have two : ((2 ^ (s + 1) : Nat) : Rat) = ((2 ^ 1 : Nat) : Rat) * ((2 ^ s : Nat) : Rat) := two_add s 1
  have e2 : ((2 ^ 1 : Nat) : Rat) = 2 := by exact_mod_cast rfl
  rw [two, e2] at k1 k2
  refine ⟨⟨c, by grind⟩, fun M => ?_⟩
  have := k2 M
  grind

/-- One end of exp. -/
def ExV (g : Bool) (a s V : Nat) : Prop := ∃ c, 1 ≤ c ∧ c ≤ 20000 ∧ ek g a (2 ^ s) (2 ^ s * 2 ^ 64) c ≤ 1 ∧ (∀ j, j < c → 1 < ek g a (2 ^ s) (2 ^ s * 2 ^ 64) j) ∧
  V = tolN g (sn (ek g a (2 ^ s) (2 ^ s * 2 ^ 64)) c) (ek g a (2 ^ s) (2 ^ s * 2 ^ 64) c)
theorem ex_both {a b s lo hi : Nat} (hab : a ≤ b) (hb : b ≤ 2 ^ s) (h1 : ExV false a s lo) (h2 : ExV true b s hi) : ExB a b s lo hi ∧ lo ≤ hi ∧ (a = b → hi ≤ lo + 2) := by
  obtain ⟨c, hc, hc0, hc1, hc2, hl⟩ := h1
  obtain ⟨d, hd, hd0, hd1, _, hh⟩ := h2
  have hS := Nat.two_pow_pos s
  have hT := Nat.two_pow_pos 64
  have t0 := rnat_pos hT
  have two : ((2 ^ s * 2 ^ 64 : Nat) : Rat) = ((2 ^ 64 : Nat) : Rat) * ((2 ^ s : Nat) : Rat) := by
    rw [Nat.mul_comm]; exact_mod_cast rfl
  have L : ∀ x : Rat, ((2 ^ s : Nat) : Rat) * x = (a : Rat) → ∃ c, (lo : Rat) ≤ ((2 ^ s : Nat) : Rat) * eS x c := by
    intro x hx
    obtain ⟨z, hz, z0, _⟩ := ex_frac a s (Nat.le_trans hab hb)
    have hxz : x = z := by
      have s0 := rnat_pos hS
      have i1 : x ≤ z := rcancel (c := ((2 ^ s : Nat) : Rat)) (by rw [hx, hz]; exact Rat.le_refl) s0
      have i2 : z ≤ x := rcancel (c := ((2 ^ s : Nat) : Rat)) (by rw [hx, hz]; exact Rat.le_refl) s0
      exact Rat.le_antisymm i1 i2
    subst hxz
    refine ⟨c - 1, ?_⟩
    have k1 := ek_lo hS hT z0 hx c
    have k2 := tol_lo (sn (ek false a (2 ^ s) (2 ^ s * 2 ^ 64)) c) (ek false a (2 ^ s) (2 ^ s * 2 ^ 64) c)
    rw [← hl] at k2
    have k3 : (lo : Rat) * ((2 ^ 64 : Nat) : Rat) ≤ (sn (ek false a (2 ^ s) (2 ^ s * 2 ^ 64)) c : Rat) := by exact_mod_cast k2
    rw [two] at k1
    refine rcancel (c := ((2 ^ 64 : Nat) : Rat)) ?_ t0
    grind
  have H : ∀ x : Rat, ((2 ^ s : Nat) : Rat) * x = (b : Rat) → ∀ c, ((2 ^ s : Nat) : Rat) * eS x c ≤ (hi : Rat) := by
    intro x hx M
    obtain ⟨z, hz, z0, z1⟩ := ex_frac b s hb
    have hxz : x = z := by
      have s0 := rnat_pos hS
      have i1 : x ≤ z := rcancel (c := ((2 ^ s : Nat) : Rat)) (by rw [hx, hz]; exact Rat.le_refl) s0
      have i2 : z ≤ x := rcancel (c := ((2 ^ s : Nat) : Rat)) (by rw [hx, hz]; exact Rat.le_refl) s0
      exact Rat.le_antisymm i1 i2
    subst hxz
    have k1 := ek_all hS hT z0 z1 hx hd M
    have k2 := tol_hi (sn (ek true b (2 ^ s) (2 ^ s * 2 ^ 64)) d) (ek true b (2 ^ s) (2 ^ s * 2 ^ 64) d)
    rw [← hh] at k2
    have k3 : ((sn (ek true b (2 ^ s) (2 ^ s * 2 ^ 64)) d + (ek true b (2 ^ s) (2 ^ s * 2 ^ 64) d + ek true b (2 ^ s) (2 ^ s * 2 ^ 64) d) : Nat) : Rat) ≤ (hi : Rat) * ((2 ^ 64 : Nat) : Rat) := by exact_mod_cast k2
    rw [two] at k1
    refine rcancel (c := ((2 ^ 64 : Nat) : Rat)) ?_ t0
    grind
  refine ⟨⟨L, H⟩, ?_, fun hE => ?_⟩
  · obtain ⟨x, hx, x0, _⟩ := ex_frac a s (Nat.le_trans hab hb)
    obtain ⟨y, hy, y0, _⟩ := ex_frac (b - a) s (by omega)
    have hxy : ((2 ^ s : Nat) : Rat) * (x + y) = (b : Rat) := by
      have e : (b : Rat) = (a : Rat) + ((b - a : Nat) : Rat) := by
        have : ((a + (b - a) : Nat) : Rat) = (a : Rat) + ((b - a : Nat) : Rat) := by exact_mod_cast rfl
        rw [← this, show a + (b - a) = b by omega]
      rw [e]; grind
    obtain ⟨k, k1⟩ := L x hx
    have k2 := H (x + y) hxy (k + 0)
    have m := eS_mul_le x0 y0 k 0
    rw [eS_zero] at m
    have s0 := rnat_nonneg (2 ^ s)
    have m2 := rmul_le m s0
    refine cast_le ?_
    grind
  · subst hE
    have gap := en_gap hS hb hc1 hc2 hd1
    rw [hl, hh]
    exact tol_gap gap hd1 (by omega)
end Go.Proofs.YtngldpmnbdgkiaaDoor
