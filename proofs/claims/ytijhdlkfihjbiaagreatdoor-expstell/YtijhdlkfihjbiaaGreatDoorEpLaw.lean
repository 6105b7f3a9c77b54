/- What Split and Exp tell, of dyads: how often ln 2 is split off, where exp is. Numbers alone. -/
import Derived.Test.YtijhdlkfihjbiaaGreatDoorEpSplit
import Derived.Test.YtijhdlkfihjbiaaGreatDoorEpDoc
namespace Go.Proofs.YtijhdlkfihjbiaaGreatDoor

/-- An end that may be split. -/
def Mid (d : Dy) : Prop := blen d.V ≤ 20000 ∧ -20000 ≤ d.e ∧ (d.V ≠ 0 → (blen d.V : Int) + d.e ≤ 12)
/-- The greatest whole number of parts up to it, the least from it on. -/
noncomputable def flU (s : Nat) (d : Dy) : Int := dw d.neg d.V d.e / (us s : Int)
noncomputable def clU (s : Nat) (d : Dy) : Int := -(-(dw d.neg d.V d.e) / (us s : Int))
theorem flU_le (s : Nat) (d : Dy) : flU s d * (us s : Int) ≤ dw d.neg d.V d.e ∧ dw d.neg d.V d.e < (flU s d + 1) * (us s : Int) := by
  have := us_pos s
  unfold flU
  exact ⟨Int.ediv_mul_le _ (by omega), by rw [Int.add_mul, Int.one_mul]; have := Int.lt_ediv_add_one_mul_self (dw d.neg d.V d.e) (show (0 : Int) < (us s : Int) by omega); rw [Int.add_mul, Int.one_mul] at this; exact this⟩
theorem clU_le (s : Nat) (d : Dy) : dw d.neg d.V d.e ≤ clU s d * (us s : Int) ∧ (clU s d - 1) * (us s : Int) < dw d.neg d.V d.e := by
  have := us_pos s
  unfold clU
  have h1 := Int.ediv_mul_le (-(dw d.neg d.V d.e)) (show (us s : Int) ≠ 0 by omega)
  have h2 := Int.lt_ediv_add_one_mul_self (-(dw d.neg d.V d.e)) (show (0 : Int) < (us s : Int) by omega)
  rw [Int.add_mul, Int.one_mul] at h2
  rw [Int.sub_mul, Int.neg_mul, Int.one_mul]
  omega
theorem fl_cl {s : Nat} {a b : Dy} (h : dw a.neg a.V a.e ≤ dw b.neg b.V b.e) : flU s a ≤ clU s b := by
  have p := us_pos s
  have h1 := (flU_le s a).1
  have h2 := (clU_le s b).1
  exact Int.le_of_mul_le_mul_right (by omega : flU s a * (us s : Int) ≤ clU s b * (us s : Int)) (by omega)
theorem cl_fl (s : Nat) (a : Dy) : clU s a ≤ flU s a + 1 := by
  have p := us_pos s
  have h1 := (flU_le s a).2
  have h2 := (clU_le s a).2
  have h3 : clU s a - 1 < flU s a + 1 := Int.lt_of_mul_lt_mul_right (by omega : (clU s a - 1) * (us s : Int) < (flU s a + 1) * (us s : Int)) (by omega)
  omega
theorem us_rat {s : Nat} (hs : s ≤ 9000) (n : Int) {a : Rat} (ha : a * ((2 ^ s : Nat) : Rat) = (n : Rat)) : a * (ub : Rat) = ((n * (us s : Int) : Int) : Rat) := by
  have u := us_ub hs
  have u' : (us s : Rat) * ((2 ^ s : Nat) : Rat) = (ub : Rat) := by
    rw [← u]
    exact_mod_cast rfl
  have e : ((n * (us s : Int) : Int) : Rat) = (n : Rat) * (us s : Rat) := by exact_mod_cast rfl
  rw [e, ← u', ← ha]
  grind
theorem flU_rat {s : Nat} {d : Dy} (hs : s ≤ 9000) {a : Rat} (ha : a * ((2 ^ s : Nat) : Rat) = (flU s d : Rat)) : a ≤ rat d.neg d.V d.e := by
  refine rcancel (c := (ub : Rat)) ?_ ub_pos
  have h1 := us_rat hs _ ha
  have h2 := rat_key d.neg d.V d.e
  have h3 : ((flU s d * (us s : Int) : Int) : Rat) ≤ ((dw d.neg d.V d.e : Int) : Rat) := by exact_mod_cast (flU_le s d).1
  grind
theorem clU_rat {s : Nat} {d : Dy} (hs : s ≤ 9000) {a : Rat} (ha : a * ((2 ^ s : Nat) : Rat) = (clU s d : Rat)) : rat d.neg d.V d.e ≤ a := by
  refine rcancel (c := (ub : Rat)) ?_ ub_pos
  have h1 := us_rat hs _ ha
  have h2 := rat_key d.neg d.V d.e
  have h3 : ((dw d.neg d.V d.e : Int) : Rat) ≤ ((clU s d * (us s : Int) : Int) : Rat) := by exact_mod_cast (clU_le s d).1
  grind
/-- A dyad of a middle size has so many parts at most. -/
theorem mid_sz {d : Dy} (hf : Fine d) (h : Mid d) : sz d.V d.e ≤ 4096 * ub := by
  by_cases h0 : d.V = 0
  · have : sz d.V d.e = 0 := by unfold sz; rw [h0, Nat.zero_mul]
    omega
  · have h5 := blen_sz d.e h0
    have h6 := sh_held 0
    have h7 := h.2.2 h0
    rw [held_id (by omega) (by omega)] at h6
    unfold topD at h5
    rw [hf.held] at h5
    have h8 : blen (sz d.V d.e) ≤ 12 + sh 0 := by omega
    have h9 := blen_le_iff.1 h8
    rw [Nat.pow_add, ← ub_eq] at h9
    exact Nat.le_of_lt h9
theorem mid_far {d : Dy} {s : Nat} (hf : Fine d) (h : Mid d) (hs : s ≤ 9000) : (flU s d).natAbs ≤ 4096 * 2 ^ s + 1 := by
  have h1 := mid_sz hf h
  have h2 := us_ub hs
  have h3 := flU_le s d
  have h4 : (dw d.neg d.V d.e).natAbs = sz d.V d.e := by
    unfold dw
    cases d.neg
    · exact Int.natAbs_natCast _
    · show (-(sz d.V d.e : Int)).natAbs = _
      rw [Int.natAbs_neg]
      exact Int.natAbs_natCast _
  rw [← h2, Nat.mul_comm (us s), ← Nat.mul_assoc] at h1
  obtain ⟨W, hW⟩ : ∃ W, 4096 * 2 ^ s = W := ⟨_, rfl⟩
  rw [hW] at h1 ⊢
  have p := us_pos s
  generalize dw d.neg d.V d.e = D at *
  generalize flU s d = L at *
  have e1 : ((W * us s : Nat) : Int) = (W : Int) * (us s : Int) := Int.natCast_mul _ _
  have g1 : D ≤ (W : Int) * (us s : Int) := by omega
  have g2 : -((W : Int) * (us s : Int)) ≤ D := by omega
  rw [← Int.neg_mul] at g2
  have k1 : L ≤ (W : Int) := Int.le_of_mul_le_mul_right (Int.le_trans h3.1 g1) (by omega)
  have k2 : -(W : Int) < L + 1 := Int.lt_of_mul_lt_mul_right (Int.lt_of_le_of_lt g2 h3.2) (by omega)
  omega
/-- What is split off, at a scale; what Exp tells then. -/
def EpW (s : Nat) (lo hi : Dy) (k : Int) (a b c d : Nat) : Prop := AtV false 1 3 (s + 1) c ∧ AtV true 1 3 (s + 1) d ∧ k = spK (flU s lo) c d ∧ SplitV k (flU s lo) (clU s hi) a b c d
def EpV (s : Nat) (lo hi : Dy) (k : Int) (X Y : Dy) : Prop := ∃ a b c d p q, EpW s lo hi k a b c d ∧ b ≤ 2 ^ s ∧ ExV false a s p ∧ ExV true b s q ∧ mk false p (k - (s : Int)) = some X ∧ mk false q (k - (s : Int)) = some Y
theorem epw_at {s : Nat} {lo hi : Dy} {k : Int} {a b c d : Nat} (hs : 8 ≤ s) (h : EpW s lo hi k a b c d) (hle : dw lo.neg lo.V lo.e ≤ dw hi.neg hi.V hi.e) :
    0 < c ∧ 4 * a ≤ 3 * 2 ^ s + 8 ∧ (b : Int) = (a : Int) + (clU s hi - flU s lo) + (k.natAbs * (d - c) : Nat) ∧ d - c ≤ 2 ∧ k.natAbs * c < (flU s lo).natAbs + c ∧ 2 ^ s ≤ 2 * c + 4 ∧ 4 * c ≤ 3 * 2 ^ s ∧ c ≤ d := by
  obtain ⟨h1, h2, h3, h4⟩ := h
  obtain ⟨t1, t2, t3, t4⟩ := ln2_third h1 h2
  have hW : 2 ^ 8 ≤ 2 ^ s := Nat.pow_le_pow_right (by decide) hs
  have e8 : (2 : Nat) ^ 8 = 256 := rfl
  rw [e8] at hW
  have c0 : 0 < c := by omega
  obtain ⟨a', b', g1, g2, g3, g4⟩ := sp_at c0 t3 (fl_cl (s := s) hle)
  rw [← h3] at g1 g3 g4
  have ea : a = a' := by have := h4.1; rw [← g1.1] at this; omega
  have eb : b = b' := by have := h4.2; rw [← g1.2] at this; omega
  subst ea eb
  have g2' : a < d := by
    by_cases h0 : flU s lo < 0
    · rw [if_pos h0] at g2; omega
    · rw [if_neg h0] at g2; exact g2
  refine ⟨c0, ?_, g3, by omega, g4, by omega, t1, t3⟩
  omega
/-- How often, at most. -/
theorem epw_k {s : Nat} {lo hi : Dy} {k : Int} {a b c d n : Nat} (hs : 8 ≤ s) (h : EpW s lo hi k a b c d) (hle : dw lo.neg lo.V lo.e ≤ dw hi.neg hi.V hi.e) (hn : (flU s lo).natAbs ≤ n * 2 ^ s) : k.natAbs ≤ 3 * n + 1 := by
  obtain ⟨c0, _, _, _, g4, g5, _, _⟩ := epw_at hs h hle
  have hW : 2 ^ 8 ≤ 2 ^ s := Nat.pow_le_pow_right (by decide) hs
  have e8 : (2 : Nat) ^ 8 = 256 := rfl
  rw [e8] at hW
  have h3 : 2 ^ s ≤ 3 * c := by omega
  have h4 : n * 2 ^ s ≤ n * (3 * c) := Nat.mul_le_mul_left _ h3
  have h5 : k.natAbs * c < (3 * n + 1) * c := by
    have e : (3 * n + 1) * c = n * (3 * c) + c := by rw [Nat.add_mul, Nat.one_mul, Nat.mul_comm 3 n, Nat.mul_assoc]
    omega
  exact Nat.le_of_lt (Nat.lt_of_mul_lt_mul_right h5)
/-- When it isn't too wide. -/
theorem epw_fits {s : Nat} {lo hi : Dy} {k : Int} {a b c d n : Nat} (hs : 8 ≤ s) (h : EpW s lo hi k a b c d) (hle : dw lo.neg lo.V lo.e ≤ dw hi.neg hi.V hi.e) (hn : (flU s lo).natAbs ≤ n * 2 ^ s) (hw : 4 * (clU s hi - flU s lo) + 24 * (n : Int) + 16 ≤ ((2 ^ s : Nat) : Int)) : b ≤ 2 ^ s := by
  have hk := epw_k hs h hle hn
  obtain ⟨_, g1, g2, g3, _, _, _, _⟩ := epw_at hs h hle
  have : k.natAbs * (d - c) ≤ (3 * n + 1) * 2 := Nat.mul_le_mul hk g3
  omega
/-- Where exp is: of any end that may be split. -/
theorem ep_ends {s : Nat} {lo hi : Dy} {k : Int} {X Y : Dy} (hs : 8 ≤ s) (hs9 : s ≤ 8900) (hf : Fine lo) (hm : Mid lo) (hle : dw lo.neg lo.V lo.e ≤ dw hi.neg hi.V hi.e) (h : EpV s lo hi k X Y) :
    LnLe (rat X.neg X.V X.e) (rat lo.neg lo.V lo.e) ∧ LnGe (rat Y.neg Y.V Y.e) (rat hi.neg hi.V hi.e) ∧ 0 < rat X.neg X.V X.e ∧ 0 < rat Y.neg Y.V Y.e ∧ X.V ≠ 0 ∧ Y.V ≠ 0 ∧ X.neg = false ∧ Y.neg = false ∧ k.natAbs ≤ 12300 := by
  obtain ⟨a, b, c, d, p, q, hw, hb, v1, v2, mX, mY⟩ := h
  have hs1 := Nat.two_pow_pos s
  have hk := epw_k (n := 4097) hs hw hle (by have := mid_far (s := s) hf hm (by omega); omega)
  obtain ⟨_, g1, g2, g3, _, _, _, _⟩ := epw_at hs hw hle
  have hab : a ≤ b := by
    have := fl_cl (s := s) hle
    omega
  obtain ⟨hE, hpq, _⟩ := ex_both hab hb v1 v2
  have hB := (ln2_both hw.1 hw.2.1).1
  have p2 := ex_least v1
  have p0 : p ≠ 0 := by omega
  have q0 : q ≠ 0 := by omega
  obtain ⟨fx1, fx2, fx3, _⟩ := mk_fine mX
  obtain ⟨fy1, fy2, fy3, _⟩ := mk_fine mY
  have x0 : X.V ≠ 0 := fun h' => p0 (fx3.1 h')
  have y0 : Y.V ≠ 0 := fun h' => q0 (fy3.1 h')
  obtain ⟨_, jx, jx2⟩ := toldD_fine mX
  obtain ⟨_, jy, jy2⟩ := toldD_fine mY
  have nx := (jx2 (by rw [← jx]; exact x0)).1
  have ny := (jy2 (by rw [← jy]; exact y0)).1
  have rx : rat X.neg X.V X.e = rat false p (k - (s : Int)) := Rat.le_antisymm (rat_le.2 (by omega)) (rat_le.2 (by omega))
  have ry : rat Y.neg Y.V Y.e = rat false q (k - (s : Int)) := Rat.le_antisymm (rat_le.2 (by omega)) (rat_le.2 (by omega))
  have tk := tw_up (E := k - (s : Int)) (F := k) (k := s) (by omega) (by omega) (by omega)
  have ex : ∀ P : Nat, rat false P (k - (s : Int)) * ((2 ^ s : Nat) : Rat) = (P : Rat) * tw k := fun P => by
    rw [tw_times, tk, nat_pow_cast]
    grind
  obtain ⟨l, hl⟩ := parts_ex s (flU s lo)
  obtain ⟨h, hh⟩ := parts_ex s (clU s hi)
  obtain ⟨e1, e2⟩ := split_ends (by omega) (by omega) hB hE hw.2.2.2 hl hh (ex p) (ex q)
  rw [rx, ry]
  exact ⟨e1.more (flU_rat (by omega) hl), LnGe.less (Rat.le_of_lt (rat_pos q0)) e2 (clU_rat (by omega) hh), rat_pos p0, rat_pos q0, x0, y0, nx, ny, by omega⟩
end Go.Proofs.YtijhdlkfihjbiaaGreatDoor
