/- The walk of the law QuoSteps. (Written by law_qsteps.py.) -/
import Derived.Test.YtkinflmfeamajaaDoorQAlive
namespace Go.Proofs.YtkinflmfeamajaaDoor
open Go.RowKit

set_option maxHeartbeats 4000000 in
set_option maxRecDepth 100000 in
theorem qsteps_far (A : Option Addr) (n c : Nat) (B : Option Addr) (m d : Nat) (i : Int) (w : World) (hT : Tab w)
    (hn : n ≤ 9223372036854775807) (hm : m ≤ 9223372036854775807) (hfar : 40 < n ∨ 40 < m) :
    Calls Tryd.prog 6 #[.slice A n c, .slice B m d, .int .u64 i] w fun e w' => e = .returned (.bool true) ∧ Below w.heap.size w w' := by
  have Hal := Lib.hid (qalive_any w hT)
  have g : decide ((40 : Int) < (n : Int)) = true ∨ (decide ((40 : Int) < (n : Int)) = false ∧ decide ((40 : Int) < (m : Int)) = true) := by
    by_cases h1 : 40 < n
    · exact Or.inl (by simp; omega)
    · exact Or.inr ⟨by simp; omega, by simp; omega⟩
  clear hfar hT
  rcases g with b1 | ⟨b1, b2⟩
  all_goals
    go_enter Tryd.func6, Tryd.ntmps6
    go_wp2_with fail
    refine Hal.out.mono ?_
    rintro e w1 ⟨rfl, hb⟩
    go_wp2
    go_ret
    exact ⟨rfl, hb⟩

theorem val_n0 (N : Nat) : val [N, 0] = N := by simp [val]
theorem upq_ge {a b : Nat} (hb : 0 < b) : a ≤ upq a b * b := by
  have h := Nat.div_add_mod' a b
  unfold upq
  split
  · rw [Nat.add_zero]; omega
  · rw [Nat.add_mul, Nat.one_mul]
    have := Nat.mod_lt a hb
    omega
theorem upq_low (a b : Nat) : a / b ≤ upq a b := Nat.le_add_right _ _
theorem upq_high (a b : Nat) : upq a b ≤ a / b + 1 := by unfold upq; split <;> omega

set_option maxHeartbeats 8000000 in
set_option maxRecDepth 100000 in
theorem qsteps_near (A : Option Addr) (n c : Nat) (xs : List Nat) (B : Option Addr) (m d : Nat) (ys : List Nat) (N : Nat) (w : World) (hT : Tab w)
    (hA : Lim w A n c xs) (hB : Lim w B m d ys) (hn : n ≤ 40) (hm : m ≤ 40) (hN : N < 18446744073709551616) :
    Calls Tryd.prog 6 #[.slice A n c, .slice B m d, .int .u64 (N : Int)] w fun e w' => e = .returned (.bool true) ∧ Below w.heap.size w w' := by
  have Hal := Lib.hid (qalive_any w hT)
  have hS : Below w.heap.size w w := Below.refl _ _
  obtain ⟨X, hX⟩ : ∃ X, val xs = X := ⟨_, rfl⟩
  obtain ⟨Y, hY⟩ : ∃ Y, val ys = Y := ⟨_, rfl⟩
  obtain ⟨bl, hbl⟩ : ∃ bl, blen Y = bl := ⟨_, rfl⟩
  have HX := Lib.hid hX
  have HY := Lib.hid hY
  have Hbl : Hid (blen (val ys) = bl) := by rw [hY]; exact hbl
  have hbz := blen_zero_iff (x := Y)
  rw [hbl] at hbz
  have b1 : decide ((40 : Int) < (n : Int)) = false := by simp; omega
  have b2 : decide ((40 : Int) < (m : Int)) = false := by simp; omega
  clear hX hY hbl
  by_cases hn0 : N = 0
  · have b3 : ((N : Int) == 0) = true := beq_iff_eq.2 (by omega)
    subst hn0
    clear hbz
    go_enter Tryd.func6, Tryd.ntmps6
    go_wp2_with fail
    refine (Hal.out).mono ?_
    rintro e w1 ⟨rfl, hb⟩
    replace hS := hS.trans (hb.mono hS.size)
    replace hT := hT.below hb
    replace hA := hA.below hb
    replace hB := hB.below hb
    clear hb
    go_wp2
    go_ret
    exact ⟨rfl, hS⟩
  · have b3 : ((N : Int) == 0) = false := beq_eq_false_iff_ne.2 (by omega)
    have hN0 : 0 < N := by omega
    clear hn0
    by_cases h0 : Y = 0
    · have b4 : ((bl : Int) == 0) = true := beq_iff_eq.2 (by have := hbz.2 h0; omega)
      clear hbz h0
      go_enter Tryd.func6, Tryd.ntmps6
      go_wp2_with fail
      refine (Hal.out).mono ?_
      rintro e w1 ⟨rfl, hb⟩
      replace hS := hS.trans (hb.mono hS.size)
      replace hT := hT.below hb
      replace hA := hA.below hb
      replace hB := hB.below hb
      clear hb
      go_wp2_with fail
      refine (bits_v bl _ _ _ _ _ hB (by omega) Hbl).mono ?_
      rintro e w' ⟨rfl, rfl⟩
      go_wp2
      go_ret
      exact ⟨rfl, hS⟩
    · have b4 : ((bl : Int) == 0) = false := beq_eq_false_iff_ne.2 (by have := hbz.1; omega)
      have hY0 : 0 < Y := by omega
      have HY0 := Lib.hid hY0
      obtain ⟨R, hR⟩ : ∃ R, X % N = R := ⟨_, rfl⟩
      have hRb : R < 18446744073709551616 := by rw [← hR]; exact Nat.lt_trans (Nat.mod_lt _ hN0) hN
      have HR := Lib.hid hR
      have HR2 : Hid (val xs % N = R) := by rw [HX.out]; exact hR
      obtain ⟨U, hU⟩ : ∃ U, U = upq X Y := ⟨_, rfl⟩
      obtain ⟨v1, hv1⟩ : ∃ v, cmpZ (U * Y) X = v := ⟨_, rfl⟩
      obtain ⟨v2, hv2⟩ : ∃ v, cmpZ U (X / Y) = v := ⟨_, rfl⟩
      obtain ⟨v3, hv3⟩ : ∃ v, cmpZ U (X / Y + 1) = v := ⟨_, rfl⟩
      have p1 : 0 ≤ v1 := by rw [← hv1, hU]; exact cmpZ_nonneg (upq_ge hY0)
      have p2 : 0 ≤ v2 := by rw [← hv2, hU]; exact cmpZ_nonneg (upq_low X Y)
      have p3 : v3 ≤ 0 := by rw [← hv3, hU]; exact le_cmpZ (upq_high X Y)
      have q1 : decide (0 ≤ v1) = true := by simp; exact p1
      have q2 : decide (0 ≤ v2) = true := by simp; exact p2
      have q3 : decide (v3 ≤ 0) = true := by simp; exact p3
      have Hv1 := Lib.hid hv1
      have Hv2 := Lib.hid hv2
      have Hv3 := Lib.hid hv3
      have HU := Lib.hid hU
      clear hbz h0 hY0 hR hv1 hv2 hv3 hU
      go_enter Tryd.func6, Tryd.ntmps6
      go_wp2_with fail
      refine (Hal.out).mono ?_
      rintro e w1 ⟨rfl, hb⟩
      replace hS := hS.trans (hb.mono hS.size)
      replace hT := hT.below hb
      replace hA := hA.below hb
      replace hB := hB.below hb
      clear hb
      go_wp2_with fail
      refine (bits_v bl _ _ _ _ _ hB (by omega) Hbl).mono ?_
      rintro e w' ⟨rfl, rfl⟩
      go_wp2_with fail
      refine (small_any _ _ _ _ N _ hA (by omega) hN0 hN R HR2).mono ?_
      rintro e w2 ⟨A_pp, m_pp, c_pp, pp, rfl, hm_pp, h_pp, hbare, hv, hb⟩
      have H_pp : Hid (val pp = X / N) := by rw [hv, HX.out]; rfl
      have B_pp := Lib.hid hbare
      replace hS := hS.trans (hb.mono hS.size)
      replace hT := hT.below hb
      replace hA := hA.below hb
      replace hB := hB.below hb
      clear hb hv hbare
      go_wp2_with fail
      refine (div_any _ _ _ _ _ _ _ _ _ (hA.alloc _) (lim_new2 w2 23 N 0 N 0 rfl rfl hN (by decide)) (by omega) (by decide) (by rw [val_n0]; omega) (hT.below ((Below.refl _ _).alloc (Nat.le_refl _) _))).mono ?_
      rintro e w3 ⟨A_qq, m_qq, c_qq, qq, A_sr, m_sr, c_sr, sr, rfl, hm_qq, hm_sr, h_qq, h_sr, hbq, hbr, hvq, hvr, hb⟩
      have H_qq : Hid (val qq = X / N) := by rw [hvq, HX.out, val_n0]; rfl
      have H_sr : Hid (val sr = X % N) := by rw [hvr, HX.out, val_n0]; rfl
      have B_qq := Lib.hid hbq
      have B_sr := Lib.hid hbr
      replace hb := below_new hb
      replace hS := hS.trans (hb.mono hS.size)
      replace hT := hT.below hb
      replace hA := hA.below hb
      replace hB := hB.below hb
      replace h_pp := h_pp.below hb
      clear hb hvq hvr hbq hbr
      go_wp2_with fail
      refine (cmp_b 0 _ _ _ _ _ _ _ _ _ h_pp h_qq (by omega) (by omega) (cmpZ_eq (by rw [H_pp.out, H_qq.out]))).mono ?_
      rintro e w4 ⟨rfl, hb⟩
      replace hS := hS.trans (hb.mono hS.size)
      replace hT := hT.below hb
      replace hA := hA.below hb
      replace hB := hB.below hb
      replace h_pp := h_pp.below hb
      replace h_qq := h_qq.below hb
      replace h_sr := h_sr.below hb
      clear hb
      go_wp2_with fail
      refine (of_any R hRb _).mono ?_
      rintro e w5 ⟨A_oo, m_oo, c_oo, oo, rfl, hm_oo, h_oo, hbare, hv, hb⟩
      have H_oo : Hid (val oo = R) := by rw [hv]; rfl
      have B_oo := Lib.hid hbare
      replace hS := hS.trans (hb.mono hS.size)
      replace hT := hT.below hb
      replace hA := hA.below hb
      replace hB := hB.below hb
      replace h_pp := h_pp.below hb
      replace h_qq := h_qq.below hb
      replace h_sr := h_sr.below hb
      clear hb hv hbare
      go_wp2_with fail
      refine (cmp_b 0 _ _ _ _ _ _ _ _ _ h_oo h_sr (by omega) (by omega) (cmpZ_eq (by rw [H_oo.out, H_sr.out, HR.out]))).mono ?_
      rintro e w6 ⟨rfl, hb⟩
      replace hS := hS.trans (hb.mono hS.size)
      replace hT := hT.below hb
      replace hA := hA.below hb
      replace hB := hB.below hb
      replace h_pp := h_pp.below hb
      replace h_qq := h_qq.below hb
      replace h_sr := h_sr.below hb
      replace h_oo := h_oo.below hb
      clear hb
      clear h_pp h_qq h_sr h_oo
      go_wp2_with fail
      refine (div_any _ _ _ _ _ _ _ _ _ hA hB (by omega) (by omega) (by rw [HY.out]; have := HY0.out; omega) hT).mono ?_
      rintro e w7 ⟨A_xq, m_xq, c_xq, xq, A_xr, m_xr, c_xr, xr, rfl, hm_xq, hm_xr, h_xq, h_xr, hbq, hbr, hvq, hvr, hb⟩
      have H_xq : Hid (val xq = X / Y) := by rw [hvq, HX.out, HY.out]; rfl
      have H_xr : Hid (val xr = X % Y) := by rw [hvr, HX.out, HY.out]; rfl
      have B_xq := Lib.hid hbq
      have B_xr := Lib.hid hbr
      replace hS := hS.trans (hb.mono hS.size)
      replace hT := hT.below hb
      replace hA := hA.below hb
      replace hB := hB.below hb
      clear hb hvq hvr hbq hbr
      clear h_xr
      go_wp2_with fail
      refine (add_any _ _ _ _ _ _ _ _ _ hA hB (by omega) (by omega)).mono ?_
      rintro e w8 ⟨A_ab, m_ab, c_ab, ab, rfl, hm_ab, h_ab, hbare, hv, hb⟩
      have H_ab : Hid (val ab = X + Y) := by rw [hv, HX.out, HY.out]; rfl
      have B_ab := Lib.hid hbare
      replace hS := hS.trans (hb.mono hS.size)
      replace hT := hT.below hb
      replace hA := hA.below hb
      replace hB := hB.below hb
      replace h_xq := h_xq.below hb
      clear hb hv hbare
      go_wp2_with fail
      refine (div_any _ _ _ _ _ _ _ _ _ h_ab hB (by omega) (by omega) (by rw [HY.out]; have := HY0.out; omega) hT).mono ?_
      rintro e w9 ⟨A_yq, m_yq, c_yq, yq, A_yr, m_yr, c_yr, yr, rfl, hm_yq, hm_yr, h_yq, h_yr, hbq, hbr, hvq, hvr, hb⟩
      have H_yq : Hid (val yq = X / Y + 1) := by rw [hvq, H_ab.out, HY.out]; first | exact Nat.add_div_right X HY0.out | exact Nat.add_mod_right X Y
      have H_yr : Hid (val yr = X % Y) := by rw [hvr, H_ab.out, HY.out]; first | exact Nat.add_div_right X HY0.out | exact Nat.add_mod_right X Y
      have B_yq := Lib.hid hbq
      have B_yr := Lib.hid hbr
      replace hS := hS.trans (hb.mono hS.size)
      replace hT := hT.below hb
      replace hA := hA.below hb
      replace hB := hB.below hb
      replace h_xq := h_xq.below hb
      replace h_ab := h_ab.below hb
      clear hb hvq hvr hbq hbr
      clear h_yr h_ab
      go_wp2_with fail
      refine (up_any _ _ _ _ _ _ _ _ _ hA hB (by omega) (by omega) (by rw [HY.out]; have := HY0.out; omega) hT).mono ?_
      rintro e w10 ⟨A_uu, m_uu, c_uu, uu, rfl, hm_uu, h_uu, hbare, hv, hb⟩
      have H_uu : Hid (val uu = U) := by rw [hv, HX.out, HY.out, HU.out]; rfl
      have B_uu := Lib.hid hbare
      replace hS := hS.trans (hb.mono hS.size)
      replace hT := hT.below hb
      replace hA := hA.below hb
      replace hB := hB.below hb
      replace h_xq := h_xq.below hb
      replace h_yq := h_yq.below hb
      clear hb hv hbare
      go_wp2_with fail
      refine (mul_len _ _ _ _ _ _ _ _ _ h_uu hB (by omega)).mono ?_
      rintro e w11 ⟨A_mm, m_mm, c_mm, mm, rfl, hm_mm, h_mm, hbare, hv, hb⟩
      have H_mm : Hid (val mm = U * Y) := by rw [hv, H_uu.out, HY.out]; rfl
      have B_mm := Lib.hid hbare
      replace hS := hS.trans (hb.mono hS.size)
      replace hT := hT.below hb
      replace hA := hA.below hb
      replace hB := hB.below hb
      replace h_xq := h_xq.below hb
      replace h_yq := h_yq.below hb
      replace h_uu := h_uu.below hb
      clear hb hv hbare
      go_wp2_with fail
      refine (add_any _ _ _ _ _ _ _ _ _ (h_xq.alloc _) (lim_new1 w11 23 1 1 rfl (by decide)) (by omega) (by decide)).mono ?_
      rintro e w12 ⟨A_x1, m_x1, c_x1, x1, rfl, hm_x1, h_x1, hbare, hv, hb⟩
      have H_x1 : Hid (val x1 = X / Y + 1) := by rw [hv, H_xq.out]; rfl
      have B_x1 := Lib.hid hbare
      replace hb := below_new hb
      replace hS := hS.trans (hb.mono hS.size)
      replace hT := hT.below hb
      replace hA := hA.below hb
      replace hB := hB.below hb
      replace h_xq := h_xq.below hb
      replace h_yq := h_yq.below hb
      replace h_uu := h_uu.below hb
      replace h_mm := h_mm.below hb
      clear hb hv hbare
      go_wp2_with fail
      refine (cmp_b 0 _ _ _ _ _ _ _ _ _ h_yq h_x1 (by omega) (by omega) (cmpZ_eq (by rw [H_yq.out, H_x1.out]))).mono ?_
      rintro e w13 ⟨rfl, hb⟩
      replace hS := hS.trans (hb.mono hS.size)
      replace hT := hT.below hb
      replace hA := hA.below hb
      replace hB := hB.below hb
      replace h_xq := h_xq.below hb
      replace h_yq := h_yq.below hb
      replace h_uu := h_uu.below hb
      replace h_mm := h_mm.below hb
      replace h_x1 := h_x1.below hb
      clear hb
      go_wp2_with fail
      refine (cmp_b v1 _ _ _ _ _ _ _ _ _ h_mm hA (by omega) (by omega) (by rw [H_mm.out, HX.out]; exact Hv1)).mono ?_
      rintro e w14 ⟨rfl, hb⟩
      replace hS := hS.trans (hb.mono hS.size)
      replace hT := hT.below hb
      replace hA := hA.below hb
      replace hB := hB.below hb
      replace h_xq := h_xq.below hb
      replace h_yq := h_yq.below hb
      replace h_uu := h_uu.below hb
      replace h_mm := h_mm.below hb
      replace h_x1 := h_x1.below hb
      clear hb
      go_wp2_with fail
      refine (cmp_b v2 _ _ _ _ _ _ _ _ _ h_uu h_xq (by omega) (by omega) (by rw [H_uu.out, H_xq.out]; exact Hv2)).mono ?_
      rintro e w15 ⟨rfl, hb⟩
      replace hS := hS.trans (hb.mono hS.size)
      replace hT := hT.below hb
      replace hA := hA.below hb
      replace hB := hB.below hb
      replace h_xq := h_xq.below hb
      replace h_yq := h_yq.below hb
      replace h_uu := h_uu.below hb
      replace h_mm := h_mm.below hb
      replace h_x1 := h_x1.below hb
      clear hb
      go_wp2_with fail
      refine (cmp_b v3 _ _ _ _ _ _ _ _ _ h_uu h_yq (by omega) (by omega) (by rw [H_uu.out, H_yq.out]; exact Hv3)).mono ?_
      rintro e w16 ⟨rfl, hb⟩
      replace hS := hS.trans (hb.mono hS.size)
      replace hT := hT.below hb
      replace hA := hA.below hb
      replace hB := hB.below hb
      replace h_xq := h_xq.below hb
      replace h_yq := h_yq.below hb
      replace h_uu := h_uu.below hb
      replace h_mm := h_mm.below hb
      replace h_x1 := h_x1.below hb
      clear hb
      go_wp2
      go_ret
      exact ⟨rfl, hS⟩

theorem walk_quoSteps (A : Option Addr) (n c : Nat) (xs : List Nat) (B : Option Addr) (m d : Nat) (ys : List Nat) (i : Int) (w : World) (hT : Tab w)
    (hA : Lim w A n c xs) (hn : n ≤ 9223372036854775807) (hB : Lim w B m d ys) (hm : m ≤ 9223372036854775807) (hi : 0 ≤ i) (hi2 : i ≤ 18446744073709551615) :
    Calls Tryd.prog 6 #[.slice A n c, .slice B m d, .int .u64 i] w fun e w' => e = .returned (.bool true) ∧ Below w.heap.size w w' := by
  by_cases h : 40 < n ∨ 40 < m
  · exact qsteps_far A n c B m d i w hT hn hm h
  · have := qsteps_near A n c xs B m d ys i.toNat w hT hA hB (by omega) (by omega) (by omega)
    rwa [Int.toNat_of_nonneg hi] at this
end Go.Proofs.YtkinflmfeamajaaDoor
