/- The walk of the law ProdRules. (Written by law_rules.py.) -/
import Derived.Test.YtimajgbkmblfmaaPAlive
namespace Go.Proofs.Ytimajgbkmblfmaa
open Go.RowKit

set_option maxHeartbeats 4000000 in
set_option maxRecDepth 100000 in
theorem rules_far (A : Option Addr) (n c : Nat) (B : Option Addr) (m d : Nat) (C : Option Addr) (l f : Nat) (i k : Int) (w : World)
    (hn : n ≤ 9223372036854775807) (hm : m ≤ 9223372036854775807) (hl : l ≤ 9223372036854775807) (hfar : 20 < n ∨ 20 < m ∨ 20 < l) :
    Calls Try.prog 5 #[.slice A n c, .slice B m d, .slice C l f, .int .u8 i, .int .u8 k] w fun e w' => e = .returned (.bool true) ∧ Below w.heap.size w w' := by
  have Hal := Lib.hid (alive_any w)
  have g : decide ((20 : Int) < (n : Int)) = true ∨ (decide ((20 : Int) < (n : Int)) = false ∧ decide ((20 : Int) < (m : Int)) = true) ∨ (decide ((20 : Int) < (n : Int)) = false ∧ decide ((20 : Int) < (m : Int)) = false ∧ decide ((20 : Int) < (l : Int)) = true) := by
    by_cases h1 : 20 < n
    · exact Or.inl (by simp; omega)
    · by_cases h2 : 20 < m
      · exact Or.inr (Or.inl ⟨by simp; omega, by simp; omega⟩)
      · exact Or.inr (Or.inr ⟨by simp; omega, by simp; omega, by simp; omega⟩)
  clear hfar
  rcases g with b1 | ⟨b1, b2⟩ | ⟨b1, b2, b3⟩
  all_goals
    go_enter Try.func5, Try.ntmps5
    go_wp2_with fail
    refine Hal.out.mono ?_
    rintro e w1 ⟨rfl, hb⟩
    go_wp2
    go_ret
    exact ⟨rfl, hb⟩

set_option maxHeartbeats 8000000 in
set_option maxRecDepth 100000 in
theorem rules_near (A : Option Addr) (n c : Nat) (xs : List Nat) (B : Option Addr) (m d : Nat) (ys : List Nat) (C : Option Addr) (l f : Nat) (zs : List Nat) (i k : Int) (w : World)
    (hA : Lim w A n c xs) (hB : Lim w B m d ys) (hC : Lim w C l f zs) (hn : n ≤ 20) (hm : m ≤ 20) (hl : l ≤ 20) (hi : 0 ≤ i) (hi2 : i ≤ 255) (hk : 0 ≤ k) (hk2 : k ≤ 255) :
    Calls Try.prog 5 #[.slice A n c, .slice B m d, .slice C l f, .int .u8 i, .int .u8 k] w fun e w' => e = .returned (.bool true) ∧ Below w.heap.size w w' := by
  have Hal := Lib.hid (alive_any w)
  have hS : Below w.heap.size w w := Below.refl _ _
  obtain ⟨X, hX⟩ : ∃ X, val xs = X := ⟨_, rfl⟩
  obtain ⟨Y, hY⟩ : ∃ Y, val ys = Y := ⟨_, rfl⟩
  obtain ⟨Z, hZ⟩ : ∃ Z, val zs = Z := ⟨_, rfl⟩
  obtain ⟨p, hp, hp7⟩ : ∃ p : Nat, i % 8 = (p : Int) ∧ p ≤ 7 := ⟨(i % 8).toNat, by omega, by omega⟩
  obtain ⟨q, hq, hq7⟩ : ∃ q : Nat, k % 8 = (q : Int) ∧ q ≤ 7 := ⟨(k % 8).toNat, by omega, by omega⟩
  obtain ⟨r, hr⟩ : ∃ r : Nat, r = p + q := ⟨_, rfl⟩
  have hr2 : (p : Int) + (q : Int) = (r : Int) := by omega
  have hr14 : r ≤ 14 := by omega
  have HX := Lib.hid hX
  have HY := Lib.hid hY
  have HZ := Lib.hid hZ
  have Hr := Lib.hid hr
  have b1 : decide ((20 : Int) < (n : Int)) = false := by simp; omega
  have b2 : decide ((20 : Int) < (m : Int)) = false := by simp; omega
  have b3 : decide ((20 : Int) < (l : Int)) = false := by simp; omega
  clear hX hY hZ hr
  by_cases h4 : 4 < n
  · have b4 : decide ((4 : Int) < (n : Int)) = true := by simp; omega
    go_enter Try.func5, Try.ntmps5
    go_wp2_with fail
    refine (Hal.out).mono ?_
    rintro e w1 ⟨rfl, hb⟩
    replace hS := hS.trans (hb.mono hS.size)
    replace hA := hA.below hb
    replace hB := hB.below hb
    replace hC := hC.below hb
    clear hb
    go_wp2_with fail
    refine (mul_len _ _ _ _ _ _ _ _ _ hA hB (by omega)).mono ?_
    rintro e w2 ⟨A_xy, m_xy, c_xy, xy, rfl, hm_xy, h_xy, hbare, hv, hb⟩
    have H_xy : Hid (val xy = X * Y) := by rw [hv, HX.out, HY.out]; rfl
    have B_xy := Lib.hid hbare
    replace hS := hS.trans (hb.mono hS.size)
    replace hA := hA.below hb
    replace hB := hB.below hb
    replace hC := hC.below hb
    clear hb hv hbare
    go_wp2_with fail
    refine (mul_len _ _ _ _ _ _ _ _ _ hB hA (by omega)).mono ?_
    rintro e w3 ⟨A_yx, m_yx, c_yx, yx, rfl, hm_yx, h_yx, hbare, hv, hb⟩
    have H_yx : Hid (val yx = Y * X) := by rw [hv, HX.out, HY.out]; rfl
    have B_yx := Lib.hid hbare
    replace hS := hS.trans (hb.mono hS.size)
    replace hA := hA.below hb
    replace hB := hB.below hb
    replace hC := hC.below hb
    replace h_xy := h_xy.below hb
    clear hb hv hbare
    go_wp2_with fail
    refine (add_any _ _ _ _ _ _ _ _ _ hB hC (by omega) (by omega)).mono ?_
    rintro e w4 ⟨A_yz, m_yz, c_yz, yz, rfl, hm_yz, h_yz, hbare, hv, hb⟩
    have H_yz : Hid (val yz = Y + Z) := by rw [hv, HY.out, HZ.out]; rfl
    have B_yz := Lib.hid hbare
    replace hS := hS.trans (hb.mono hS.size)
    replace hA := hA.below hb
    replace hB := hB.below hb
    replace hC := hC.below hb
    replace h_xy := h_xy.below hb
    replace h_yx := h_yx.below hb
    clear hb hv hbare
    go_wp2_with fail
    refine (mul_len _ _ _ _ _ _ _ _ _ hA h_yz (by omega)).mono ?_
    rintro e w5 ⟨A_pp, m_pp, c_pp, pp, rfl, hm_pp, h_pp, hbare, hv, hb⟩
    have H_pp : Hid (val pp = X * (Y + Z)) := by rw [hv, HX.out, H_yz.out]; rfl
    have B_pp := Lib.hid hbare
    replace hS := hS.trans (hb.mono hS.size)
    replace hA := hA.below hb
    replace hB := hB.below hb
    replace hC := hC.below hb
    replace h_xy := h_xy.below hb
    replace h_yx := h_yx.below hb
    replace h_yz := h_yz.below hb
    clear hb hv hbare
    clear h_yz B_yz H_yz
    go_wp2_with fail
    refine (mul_len _ _ _ _ _ _ _ _ _ hA hC (by omega)).mono ?_
    rintro e w6 ⟨A_qq, m_qq, c_qq, qq, rfl, hm_qq, h_qq, hbare, hv, hb⟩
    have H_qq : Hid (val qq = X * Z) := by rw [hv, HX.out, HZ.out]; rfl
    have B_qq := Lib.hid hbare
    replace hS := hS.trans (hb.mono hS.size)
    replace hA := hA.below hb
    replace hB := hB.below hb
    replace hC := hC.below hb
    replace h_xy := h_xy.below hb
    replace h_yx := h_yx.below hb
    replace h_pp := h_pp.below hb
    clear hb hv hbare
    go_wp2_with fail
    refine (cmp_b 0 _ _ _ _ _ _ _ _ _ h_xy h_yx (by omega) (by omega) (cmpZ_eq (by rw [H_xy.out, H_yx.out, Nat.mul_comm]))).mono ?_
    rintro e w7 ⟨rfl, hb⟩
    replace hS := hS.trans (hb.mono hS.size)
    replace hA := hA.below hb
    replace hB := hB.below hb
    replace hC := hC.below hb
    replace h_xy := h_xy.below hb
    replace h_yx := h_yx.below hb
    replace h_pp := h_pp.below hb
    replace h_qq := h_qq.below hb
    clear hb
    go_wp2_with fail
    refine (add_any _ _ _ _ _ _ _ _ _ h_xy h_qq (by omega) (by omega)).mono ?_
    rintro e w8 ⟨A_ss, m_ss, c_ss, ss, rfl, hm_ss, h_ss, hbare, hv, hb⟩
    have H_ss : Hid (val ss = X * Y + X * Z) := by rw [hv, H_xy.out, H_qq.out]; rfl
    have B_ss := Lib.hid hbare
    replace hS := hS.trans (hb.mono hS.size)
    replace hA := hA.below hb
    replace hB := hB.below hb
    replace hC := hC.below hb
    replace h_xy := h_xy.below hb
    replace h_yx := h_yx.below hb
    replace h_pp := h_pp.below hb
    replace h_qq := h_qq.below hb
    clear hb hv hbare
    go_wp2_with fail
    refine (cmp_b 0 _ _ _ _ _ _ _ _ _ h_pp h_ss (by omega) (by omega) (cmpZ_eq (by rw [H_pp.out, H_ss.out, Nat.mul_add]))).mono ?_
    rintro e w9 ⟨rfl, hb⟩
    replace hS := hS.trans (hb.mono hS.size)
    replace hA := hA.below hb
    replace hB := hB.below hb
    replace hC := hC.below hb
    replace h_xy := h_xy.below hb
    replace h_yx := h_yx.below hb
    replace h_pp := h_pp.below hb
    replace h_qq := h_qq.below hb
    replace h_ss := h_ss.below hb
    clear hb
    go_wp2
    go_ret
    exact ⟨rfl, hS⟩
  · have b4 : decide ((4 : Int) < (n : Int)) = false := by simp; omega
    go_enter Try.func5, Try.ntmps5
    go_wp2_with fail
    refine (Hal.out).mono ?_
    rintro e w1 ⟨rfl, hb⟩
    replace hS := hS.trans (hb.mono hS.size)
    replace hA := hA.below hb
    replace hB := hB.below hb
    replace hC := hC.below hb
    clear hb
    go_wp2_with fail
    refine (mul_len _ _ _ _ _ _ _ _ _ hA hB (by omega)).mono ?_
    rintro e w2 ⟨A_xy, m_xy, c_xy, xy, rfl, hm_xy, h_xy, hbare, hv, hb⟩
    have H_xy : Hid (val xy = X * Y) := by rw [hv, HX.out, HY.out]; rfl
    have B_xy := Lib.hid hbare
    replace hS := hS.trans (hb.mono hS.size)
    replace hA := hA.below hb
    replace hB := hB.below hb
    replace hC := hC.below hb
    clear hb hv hbare
    go_wp2_with fail
    refine (mul_len _ _ _ _ _ _ _ _ _ hB hA (by omega)).mono ?_
    rintro e w3 ⟨A_yx, m_yx, c_yx, yx, rfl, hm_yx, h_yx, hbare, hv, hb⟩
    have H_yx : Hid (val yx = Y * X) := by rw [hv, HX.out, HY.out]; rfl
    have B_yx := Lib.hid hbare
    replace hS := hS.trans (hb.mono hS.size)
    replace hA := hA.below hb
    replace hB := hB.below hb
    replace hC := hC.below hb
    replace h_xy := h_xy.below hb
    clear hb hv hbare
    go_wp2_with fail
    refine (add_any _ _ _ _ _ _ _ _ _ hB hC (by omega) (by omega)).mono ?_
    rintro e w4 ⟨A_yz, m_yz, c_yz, yz, rfl, hm_yz, h_yz, hbare, hv, hb⟩
    have H_yz : Hid (val yz = Y + Z) := by rw [hv, HY.out, HZ.out]; rfl
    have B_yz := Lib.hid hbare
    replace hS := hS.trans (hb.mono hS.size)
    replace hA := hA.below hb
    replace hB := hB.below hb
    replace hC := hC.below hb
    replace h_xy := h_xy.below hb
    replace h_yx := h_yx.below hb
    clear hb hv hbare
    go_wp2_with fail
    refine (mul_len _ _ _ _ _ _ _ _ _ hA h_yz (by omega)).mono ?_
    rintro e w5 ⟨A_pp, m_pp, c_pp, pp, rfl, hm_pp, h_pp, hbare, hv, hb⟩
    have H_pp : Hid (val pp = X * (Y + Z)) := by rw [hv, HX.out, H_yz.out]; rfl
    have B_pp := Lib.hid hbare
    replace hS := hS.trans (hb.mono hS.size)
    replace hA := hA.below hb
    replace hB := hB.below hb
    replace hC := hC.below hb
    replace h_xy := h_xy.below hb
    replace h_yx := h_yx.below hb
    replace h_yz := h_yz.below hb
    clear hb hv hbare
    clear h_yz B_yz H_yz
    go_wp2_with fail
    refine (mul_len _ _ _ _ _ _ _ _ _ hA hC (by omega)).mono ?_
    rintro e w6 ⟨A_qq, m_qq, c_qq, qq, rfl, hm_qq, h_qq, hbare, hv, hb⟩
    have H_qq : Hid (val qq = X * Z) := by rw [hv, HX.out, HZ.out]; rfl
    have B_qq := Lib.hid hbare
    replace hS := hS.trans (hb.mono hS.size)
    replace hA := hA.below hb
    replace hB := hB.below hb
    replace hC := hC.below hb
    replace h_xy := h_xy.below hb
    replace h_yx := h_yx.below hb
    replace h_pp := h_pp.below hb
    clear hb hv hbare
    go_wp2_with fail
    refine (cmp_b 0 _ _ _ _ _ _ _ _ _ h_xy h_yx (by omega) (by omega) (cmpZ_eq (by rw [H_xy.out, H_yx.out, Nat.mul_comm]))).mono ?_
    rintro e w7 ⟨rfl, hb⟩
    replace hS := hS.trans (hb.mono hS.size)
    replace hA := hA.below hb
    replace hB := hB.below hb
    replace hC := hC.below hb
    replace h_xy := h_xy.below hb
    replace h_yx := h_yx.below hb
    replace h_pp := h_pp.below hb
    replace h_qq := h_qq.below hb
    clear hb
    go_wp2_with fail
    refine (add_any _ _ _ _ _ _ _ _ _ h_xy h_qq (by omega) (by omega)).mono ?_
    rintro e w8 ⟨A_ss, m_ss, c_ss, ss, rfl, hm_ss, h_ss, hbare, hv, hb⟩
    have H_ss : Hid (val ss = X * Y + X * Z) := by rw [hv, H_xy.out, H_qq.out]; rfl
    have B_ss := Lib.hid hbare
    replace hS := hS.trans (hb.mono hS.size)
    replace hA := hA.below hb
    replace hB := hB.below hb
    replace hC := hC.below hb
    replace h_xy := h_xy.below hb
    replace h_yx := h_yx.below hb
    replace h_pp := h_pp.below hb
    replace h_qq := h_qq.below hb
    clear hb hv hbare
    go_wp2_with fail
    refine (cmp_b 0 _ _ _ _ _ _ _ _ _ h_pp h_ss (by omega) (by omega) (cmpZ_eq (by rw [H_pp.out, H_ss.out, Nat.mul_add]))).mono ?_
    rintro e w9 ⟨rfl, hb⟩
    replace hS := hS.trans (hb.mono hS.size)
    replace hA := hA.below hb
    replace hB := hB.below hb
    replace hC := hC.below hb
    replace h_xy := h_xy.below hb
    replace h_yx := h_yx.below hb
    replace h_pp := h_pp.below hb
    replace h_qq := h_qq.below hb
    replace h_ss := h_ss.below hb
    clear hb
    clear h_xy h_yx h_pp h_qq h_ss hB hC
    go_wp2_with fail
    refine (pow_len 4 7 _ _ _ _ p _ hA (by omega) hp7 (by decide) (by decide) (by decide)).mono ?_
    rintro e w10 ⟨A_uu, m_uu, c_uu, uu, rfl, hm_uu, h_uu, hbare, hv, hb⟩
    have H_uu : Hid (val uu = X ^ p) := by rw [hv, HX.out]; rfl
    have B_uu := Lib.hid hbare
    replace hS := hS.trans (hb.mono hS.size)
    replace hA := hA.below hb
    clear hb hv hbare
    go_wp2_with fail
    refine (pow_len 4 7 _ _ _ _ q _ hA (by omega) hq7 (by decide) (by decide) (by decide)).mono ?_
    rintro e w11 ⟨A_vv, m_vv, c_vv, vv, rfl, hm_vv, h_vv, hbare, hv, hb⟩
    have H_vv : Hid (val vv = X ^ q) := by rw [hv, HX.out]; rfl
    have B_vv := Lib.hid hbare
    replace hS := hS.trans (hb.mono hS.size)
    replace hA := hA.below hb
    replace h_uu := h_uu.below hb
    clear hb hv hbare
    go_wp2_with fail
    refine (pow_len 4 14 _ _ _ _ r _ hA (by omega) hr14 (by decide) (by decide) (by decide)).mono ?_
    rintro e w12 ⟨A_ww, m_ww, c_ww, ww, rfl, hm_ww, h_ww, hbare, hv, hb⟩
    have H_ww : Hid (val ww = X ^ r) := by rw [hv, HX.out]; rfl
    have B_ww := Lib.hid hbare
    replace hS := hS.trans (hb.mono hS.size)
    replace hA := hA.below hb
    replace h_uu := h_uu.below hb
    replace h_vv := h_vv.below hb
    clear hb hv hbare
    go_wp2_with fail
    refine (mul_len _ _ _ _ _ _ _ _ _ h_uu h_vv (by omega)).mono ?_
    rintro e w13 ⟨A_ee, m_ee, c_ee, ee, rfl, hm_ee, h_ee, hbare, hv, hb⟩
    have H_ee : Hid (val ee = X ^ p * X ^ q) := by rw [hv, H_uu.out, H_vv.out]; rfl
    have B_ee := Lib.hid hbare
    replace hS := hS.trans (hb.mono hS.size)
    replace hA := hA.below hb
    replace h_uu := h_uu.below hb
    replace h_vv := h_vv.below hb
    replace h_ww := h_ww.below hb
    clear hb hv hbare
    go_wp2_with fail
    refine (cmp_b 0 _ _ _ _ _ _ _ _ _ h_ww h_ee (by omega) (by omega) (cmpZ_eq (by rw [H_ww.out, H_ee.out, Hr.out, Nat.pow_add]))).mono ?_
    rintro e w14 ⟨rfl, hb⟩
    replace hS := hS.trans (hb.mono hS.size)
    replace hA := hA.below hb
    replace h_uu := h_uu.below hb
    replace h_vv := h_vv.below hb
    replace h_ww := h_ww.below hb
    replace h_ee := h_ee.below hb
    clear hb
    go_wp2
    go_ret
    exact ⟨rfl, hS⟩

theorem walk_prodRules (A : Option Addr) (n c : Nat) (xs : List Nat) (B : Option Addr) (m d : Nat) (ys : List Nat) (C : Option Addr) (l f : Nat) (zs : List Nat) (i k : Int) (w : World)
    (hA : Lim w A n c xs) (hn : n ≤ 9223372036854775807) (hB : Lim w B m d ys) (hm : m ≤ 9223372036854775807) (hC : Lim w C l f zs) (hl : l ≤ 9223372036854775807) (hi : 0 ≤ i) (hi2 : i ≤ 255) (hk : 0 ≤ k) (hk2 : k ≤ 255) :
    Calls Try.prog 5 #[.slice A n c, .slice B m d, .slice C l f, .int .u8 i, .int .u8 k] w fun e w' => e = .returned (.bool true) ∧ Below w.heap.size w w' := by
  by_cases h : 20 < n ∨ 20 < m ∨ 20 < l
  · exact rules_far A n c B m d C l f i k w hn hm hl h
  · exact rules_near A n c xs B m d ys C l f zs i k w hA hB hC (by omega) (by omega) (by omega) hi hi2 hk hk2
end Go.Proofs.Ytimajgbkmblfmaa
