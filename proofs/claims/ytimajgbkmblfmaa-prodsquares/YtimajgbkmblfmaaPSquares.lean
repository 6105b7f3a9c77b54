/- The walk of the law ProdSquares. (Written by law_squares.py.) -/
import Derived.Test.YtimajgbkmblfmaaPAlive
namespace Go.Proofs.Ytimajgbkmblfmaa
open Go.RowKit

set_option maxHeartbeats 4000000 in
set_option maxRecDepth 100000 in
theorem squares_far (A : Option Addr) (n c : Nat) (B : Option Addr) (m d : Nat) (i k : Int) (w : World)
    (hn : n ≤ 9223372036854775807) (hm : m ≤ 9223372036854775807) (hfar : 4 < n ∨ 4 < m) :
    Calls Try.prog 6 #[.slice A n c, .slice B m d, .int .u8 i, .int .u8 k] w fun e w' => e = .returned (.bool true) ∧ Below w.heap.size w w' := by
  have Hal := Lib.hid (alive_any w)
  have g : decide ((4 : Int) < (n : Int)) = true ∨ (decide ((4 : Int) < (n : Int)) = false ∧ decide ((4 : Int) < (m : Int)) = true) := by
    by_cases h1 : 4 < n
    · exact Or.inl (by simp; omega)
    · exact Or.inr ⟨by simp; omega, by simp; omega⟩
  clear hfar
  rcases g with b1 | ⟨b1, b2⟩
  all_goals
    go_enter Try.func6, Try.ntmps6
    go_wp2_with fail
    refine Hal.out.mono ?_
    rintro e w1 ⟨rfl, hb⟩
    go_wp2
    go_ret
    exact ⟨rfl, hb⟩

set_option maxHeartbeats 8000000 in
set_option maxRecDepth 100000 in
theorem squares_near (A : Option Addr) (n c : Nat) (xs : List Nat) (B : Option Addr) (m d : Nat) (ys : List Nat) (i k : Int) (w : World)
    (hA : Lim w A n c xs) (hB : Lim w B m d ys) (hn : n ≤ 4) (hm : m ≤ 4) (hi : 0 ≤ i) (hi2 : i ≤ 255) (hk : 0 ≤ k) (hk2 : k ≤ 255) :
    Calls Try.prog 6 #[.slice A n c, .slice B m d, .int .u8 i, .int .u8 k] w fun e w' => e = .returned (.bool true) ∧ Below w.heap.size w w' := by
  have Hal := Lib.hid (alive_any w)
  have hS : Below w.heap.size w w := Below.refl _ _
  obtain ⟨X, hX⟩ : ∃ X, val xs = X := ⟨_, rfl⟩
  obtain ⟨Y, hY⟩ : ∃ Y, val ys = Y := ⟨_, rfl⟩
  obtain ⟨p, hp, hp5⟩ : ∃ p : Nat, i % 6 = (p : Int) ∧ p ≤ 5 := ⟨(i % 6).toNat, by omega, by omega⟩
  obtain ⟨q, hq, hq5⟩ : ∃ q : Nat, k % 6 = (q : Int) ∧ q ≤ 5 := ⟨(k % 6).toNat, by omega, by omega⟩
  obtain ⟨r, hr⟩ : ∃ r : Nat, r = p * q := ⟨_, rfl⟩
  have hr2 : (p : Int) * (q : Int) = (r : Int) := by rw [hr]; exact (Int.natCast_mul p q).symm
  have hr25 : r ≤ 25 := by rw [hr]; exact Nat.mul_le_mul hp5 hq5
  obtain ⟨x, hx⟩ : ∃ x, blen X = x := ⟨_, rfl⟩
  obtain ⟨y, hy⟩ : ∃ y, blen Y = y := ⟨_, rfl⟩
  obtain ⟨z, hz⟩ : ∃ z, blen (X * Y) = z := ⟨_, rfl⟩
  have hx256 : x ≤ 256 := by rw [← hx, ← hX]; have := hA.blen_le; omega
  have hy256 : y ≤ 256 := by rw [← hy, ← hY]; have := hB.blen_le; omega
  have g : (x = 0 ∧ z = 0) ∨ (x ≠ 0 ∧ y = 0 ∧ z = 0) ∨ (x ≠ 0 ∧ y ≠ 0 ∧ z = x + y) ∨ (x ≠ 0 ∧ y ≠ 0 ∧ z + 1 = x + y) := by
    by_cases h1 : X = 0
    · exact Or.inl ⟨by rw [← hx, h1]; rfl, by rw [← hz, h1, Nat.zero_mul]; rfl⟩
    · have p1 := blen_pos h1
      by_cases h2 : Y = 0
      · exact Or.inr (Or.inl ⟨by omega, by rw [← hy, h2]; rfl, by rw [← hz, h2, Nat.mul_zero]; rfl⟩)
      · have p2 := blen_pos h2
        have h3 := blen_mul_le X Y
        have h4 := blen_mul_ge h1 h2
        by_cases h5 : z = x + y
        · exact Or.inr (Or.inr (Or.inl ⟨by omega, by omega, h5⟩))
        · exact Or.inr (Or.inr (Or.inr ⟨by omega, by omega, by omega⟩))
  have HX := Lib.hid hX
  have HY := Lib.hid hY
  have Hr := Lib.hid hr
  have Hx := Lib.hid hx
  have Hy := Lib.hid hy
  have Hz := Lib.hid hz
  have Hg := Lib.hid g
  have b1 : decide ((4 : Int) < (n : Int)) = false := by simp; omega
  have b2 : decide ((4 : Int) < (m : Int)) = false := by simp; omega
  clear hX hY hr hx hy hz g
  go_enter Try.func6, Try.ntmps6
  go_wp2_with fail
  refine (Hal.out).mono ?_
  rintro e w1 ⟨rfl, hb⟩
  replace hS := hS.trans (hb.mono hS.size)
  replace hA := hA.below hb
  replace hB := hB.below hb
  clear hb
  go_wp2_with fail
  refine (pow_len 4 5 _ _ _ _ p _ hA (by omega) hp5 (by decide) (by decide) (by decide)).mono ?_
  rintro e w2 ⟨A_pp, m_pp, c_pp, pp, rfl, hm_pp, h_pp, hbare, hv, hb⟩
  have H_pp : Hid (val pp = X ^ p) := by rw [hv, HX.out]; rfl
  have B_pp := Lib.hid hbare
  replace hS := hS.trans (hb.mono hS.size)
  replace hA := hA.below hb
  replace hB := hB.below hb
  clear hb hv hbare
  go_wp2_with fail
  refine (pow_len 21 5 _ _ _ _ q _ h_pp (by omega) hq5 (by decide) (by decide) (by decide)).mono ?_
  rintro e w3 ⟨A_qq, m_qq, c_qq, qq, rfl, hm_qq, h_qq, hbare, hv, hb⟩
  have H_qq : Hid (val qq = (X ^ p) ^ q) := by rw [hv, H_pp.out]; rfl
  have B_qq := Lib.hid hbare
  replace hS := hS.trans (hb.mono hS.size)
  replace hA := hA.below hb
  replace hB := hB.below hb
  replace h_pp := h_pp.below hb
  clear hb hv hbare
  go_wp2_with fail
  refine (pow_len 4 25 _ _ _ _ r _ hA (by omega) hr25 (by decide) (by decide) (by decide)).mono ?_
  rintro e w4 ⟨A_rr, m_rr, c_rr, rr, rfl, hm_rr, h_rr, hbare, hv, hb⟩
  have H_rr : Hid (val rr = X ^ r) := by rw [hv, HX.out]; rfl
  have B_rr := Lib.hid hbare
  replace hS := hS.trans (hb.mono hS.size)
  replace hA := hA.below hb
  replace hB := hB.below hb
  replace h_pp := h_pp.below hb
  replace h_qq := h_qq.below hb
  clear hb hv hbare
  go_wp2_with fail
  refine (mul_len _ _ _ _ _ _ _ _ _ hA hB (by omega)).mono ?_
  rintro e w5 ⟨A_ss, m_ss, c_ss, ss, rfl, hm_ss, h_ss, hbare, hv, hb⟩
  have H_ss : Hid (val ss = X * Y) := by rw [hv, HX.out, HY.out]; rfl
  have B_ss := Lib.hid hbare
  replace hS := hS.trans (hb.mono hS.size)
  replace hA := hA.below hb
  replace hB := hB.below hb
  replace h_pp := h_pp.below hb
  replace h_qq := h_qq.below hb
  replace h_rr := h_rr.below hb
  clear hb hv hbare
  go_wp2_with fail
  refine (pow_len 8 5 _ _ _ _ p _ h_ss (by omega) hp5 (by decide) (by decide) (by decide)).mono ?_
  rintro e w6 ⟨A_tt, m_tt, c_tt, tt, rfl, hm_tt, h_tt, hbare, hv, hb⟩
  have H_tt : Hid (val tt = (X * Y) ^ p) := by rw [hv, H_ss.out]; rfl
  have B_tt := Lib.hid hbare
  replace hS := hS.trans (hb.mono hS.size)
  replace hA := hA.below hb
  replace hB := hB.below hb
  replace h_pp := h_pp.below hb
  replace h_qq := h_qq.below hb
  replace h_rr := h_rr.below hb
  replace h_ss := h_ss.below hb
  clear hb hv hbare
  go_wp2_with fail
  refine (pow_len 4 5 _ _ _ _ p _ hB (by omega) hp5 (by decide) (by decide) (by decide)).mono ?_
  rintro e w7 ⟨A_uu, m_uu, c_uu, uu, rfl, hm_uu, h_uu, hbare, hv, hb⟩
  have H_uu : Hid (val uu = Y ^ p) := by rw [hv, HY.out]; rfl
  have B_uu := Lib.hid hbare
  replace hS := hS.trans (hb.mono hS.size)
  replace hA := hA.below hb
  replace hB := hB.below hb
  replace h_pp := h_pp.below hb
  replace h_qq := h_qq.below hb
  replace h_rr := h_rr.below hb
  replace h_ss := h_ss.below hb
  replace h_tt := h_tt.below hb
  clear hb hv hbare
  go_wp2_with fail
  refine (mul_len _ _ _ _ _ _ _ _ _ h_pp h_uu (by omega)).mono ?_
  rintro e w8 ⟨A_vv, m_vv, c_vv, vv, rfl, hm_vv, h_vv, hbare, hv, hb⟩
  have H_vv : Hid (val vv = X ^ p * Y ^ p) := by rw [hv, H_pp.out, H_uu.out]; rfl
  have B_vv := Lib.hid hbare
  replace hS := hS.trans (hb.mono hS.size)
  replace hA := hA.below hb
  replace hB := hB.below hb
  replace h_pp := h_pp.below hb
  replace h_qq := h_qq.below hb
  replace h_rr := h_rr.below hb
  replace h_ss := h_ss.below hb
  replace h_tt := h_tt.below hb
  replace h_uu := h_uu.below hb
  clear hb hv hbare
  go_wp2_with fail
  refine (cmp_b 0 _ _ _ _ _ _ _ _ _ h_qq h_rr (by omega) (by omega) (cmpZ_eq (by rw [H_qq.out, H_rr.out, Hr.out, Nat.pow_mul]))).mono ?_
  rintro e w9 ⟨rfl, hb⟩
  replace hS := hS.trans (hb.mono hS.size)
  replace hA := hA.below hb
  replace hB := hB.below hb
  replace h_pp := h_pp.below hb
  replace h_qq := h_qq.below hb
  replace h_rr := h_rr.below hb
  replace h_ss := h_ss.below hb
  replace h_tt := h_tt.below hb
  replace h_uu := h_uu.below hb
  replace h_vv := h_vv.below hb
  clear hb
  go_wp2_with fail
  refine (cmp_b 0 _ _ _ _ _ _ _ _ _ h_tt h_vv (by omega) (by omega) (cmpZ_eq (by rw [H_tt.out, H_vv.out, Nat.mul_pow]))).mono ?_
  rintro e w10 ⟨rfl, hb⟩
  replace hS := hS.trans (hb.mono hS.size)
  replace hA := hA.below hb
  replace hB := hB.below hb
  replace h_pp := h_pp.below hb
  replace h_qq := h_qq.below hb
  replace h_rr := h_rr.below hb
  replace h_ss := h_ss.below hb
  replace h_tt := h_tt.below hb
  replace h_uu := h_uu.below hb
  replace h_vv := h_vv.below hb
  clear hb
  clear h_pp h_qq h_rr h_tt h_uu h_vv
  go_wp2_with fail
  refine (bits_to x _ _ _ _ _ hA (by omega) (by rw [HX.out]; exact Hx)).mono ?_
  rintro e w' ⟨rfl, rfl⟩
  go_wp2_with fail
  refine (bits_to y _ _ _ _ _ hB (by omega) (by rw [HY.out]; exact Hy)).mono ?_
  rintro e w' ⟨rfl, rfl⟩
  go_wp2_with fail
  refine (bits_to z _ _ _ _ _ h_ss (by omega) (by rw [H_ss.out]; exact Hz)).mono ?_
  rintro e w' ⟨rfl, rfl⟩
  rcases Hg.out with ⟨g1, g2⟩ | ⟨g1, g2, g3⟩ | ⟨g1, g2, g3⟩ | ⟨g1, g2, g3⟩
  · have c1 : ((x : Int) == 0) = true := by rw [g1]; rfl
    have c2 : ((z : Int) == 0) = true := by rw [g2]; rfl
    go_wp2
    go_ret
    exact ⟨rfl, hS⟩
  · have c1 : ((x : Int) == 0) = false := beq_eq_false_iff_ne.2 (by omega)
    have c2 : ((y : Int) == 0) = true := by rw [g2]; rfl
    have c3 : ((z : Int) == 0) = true := by rw [g3]; rfl
    go_wp2
    go_ret
    exact ⟨rfl, hS⟩
  · have c1 : ((x : Int) == 0) = false := beq_eq_false_iff_ne.2 (by omega)
    have c2 : ((y : Int) == 0) = false := beq_eq_false_iff_ne.2 (by omega)
    have c3 : ((z : Int) == (x : Int) + (y : Int)) = true := beq_iff_eq.2 (by omega)
    go_wp2
    go_ret
    exact ⟨rfl, hS⟩
  · have c1 : ((x : Int) == 0) = false := beq_eq_false_iff_ne.2 (by omega)
    have c2 : ((y : Int) == 0) = false := beq_eq_false_iff_ne.2 (by omega)
    have c3 : ((z : Int) == (x : Int) + (y : Int)) = false := beq_eq_false_iff_ne.2 (by omega)
    have c4 : ((z : Int) == (x : Int) + (y : Int) - 1) = true := beq_iff_eq.2 (by omega)
    go_wp2
    go_ret
    exact ⟨rfl, hS⟩

theorem walk_prodSquares (A : Option Addr) (n c : Nat) (xs : List Nat) (B : Option Addr) (m d : Nat) (ys : List Nat) (i k : Int) (w : World)
    (hA : Lim w A n c xs) (hn : n ≤ 9223372036854775807) (hB : Lim w B m d ys) (hm : m ≤ 9223372036854775807) (hi : 0 ≤ i) (hi2 : i ≤ 255) (hk : 0 ≤ k) (hk2 : k ≤ 255) :
    Calls Try.prog 6 #[.slice A n c, .slice B m d, .int .u8 i, .int .u8 k] w fun e w' => e = .returned (.bool true) ∧ Below w.heap.size w w' := by
  by_cases h : 4 < n ∨ 4 < m
  · exact squares_far A n c B m d i k w hn hm h
  · exact squares_near A n c xs B m d ys i k w hA hB (by omega) (by omega) hi hi2 hk hk2
end Go.Proofs.Ytimajgbkmblfmaa
