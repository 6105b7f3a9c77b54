/- The walk of the law RootPowers. (Written by law_rpowers.py.) -/
import Derived.Test.YtkgbgmhkbigjhaaDoorRAlive
namespace Go.Proofs.YtkgbgmhkbigjhaaDoor
open Go.RowKit

set_option maxHeartbeats 4000000 in
set_option maxRecDepth 100000 in
theorem rpowers_far (A : Option Addr) (n c : Nat) (i k : Int) (w : World) (hT : Tab w)
    (hn : n ≤ 9223372036854775807) (hfar : 4 < n) :
    Calls Tryd.prog 5 #[.slice A n c, .int .u8 i, .int .u64 k] w fun e w' => e = .returned (.bool true) ∧ Below w.heap.size w w' := by
  have Hal := Lib.hid (ralive_any w hT)
  have b1 : decide ((4 : Int) < (n : Int)) = true := by simp; omega
  clear hfar hT
  go_enter Tryd.func5, Tryd.ntmps5
  go_wp2_with fail
  refine Hal.out.mono ?_
  rintro e w1 ⟨rfl, hb⟩
  go_wp2
  go_ret
  exact ⟨rfl, hb⟩

theorem le_to_cmpZ {x y : Nat} (h : y ≤ x) : 0 ≤ cmpZ x y := by
  rcases Nat.lt_or_ge y x with h1 | h1
  · rw [cmpZ_gt h1]; decide
  · rw [cmpZ_eq (by omega)]; decide
theorem val_one (x : Nat) : val [x] = x := by simp [val]

set_option maxHeartbeats 8000000 in
set_option maxRecDepth 100000 in
theorem rpowers_near (A : Option Addr) (n c : Nat) (xs : List Nat) (i : Int) (M : Nat) (w : World) (hT : Tab w)
    (hA : Lim w A n c xs) (hn : n ≤ 4) (hi : 0 ≤ i) (hi2 : i ≤ 255) (hM : M < 18446744073709551616) :
    Calls Tryd.prog 5 #[.slice A n c, .int .u8 i, .int .u64 (M : Int)] w fun e w' => e = .returned (.bool true) ∧ Below w.heap.size w w' := by
  have Hal := Lib.hid (ralive_any w hT)
  have hS : Below w.heap.size w w := Below.refl _ _
  obtain ⟨X, hX⟩ : ∃ X, val xs = X := ⟨_, rfl⟩
  obtain ⟨q, N, hq, e2, hN1, hN⟩ : ∃ q N : Nat, i % 12 = (q : Int) ∧ 1 + (q : Int) = (N : Int) ∧ 1 ≤ N ∧ N ≤ 12 := ⟨(i % 12).toNat, (i % 12).toNat + 1, by omega, by omega, by omega, by omega⟩
  obtain ⟨P, hP⟩ : ∃ P, X ^ N = P := ⟨_, rfl⟩
  obtain ⟨S, hSS⟩ : ∃ S, P + M = S := ⟨_, rfl⟩
  obtain ⟨R, hR⟩ : ∃ R, rt N S = R := ⟨_, rfl⟩
  obtain ⟨v1, bb, hv1, hbb, hor⟩ : ∃ v bb, cmpZ (R ^ N) S = v ∧ decide (Ex N S) = bb ∧ (v = 0 ∧ bb = true ∨ v = -1 ∧ bb = false) := by
    refine ⟨_, _, rfl, rfl, ?_⟩
    by_cases hex : R ^ N = S
    · exact Or.inl ⟨cmpZ_eq hex, decide_eq_true (by rw [Ex, hR]; exact hex)⟩
    · exact Or.inr ⟨cmpZ_lt (by have := rt_le (a := S) hN1; rw [hR] at this; omega), decide_eq_false (by rw [Ex, hR]; exact hex)⟩
  obtain ⟨v2, hv2⟩ : ∃ v, cmpZ R X = v := ⟨_, rfl⟩
  have p2 : 0 ≤ v2 := by rw [← hv2, ← hR]; exact le_to_cmpZ (le_rt hN1 (by rw [hP]; omega))
  have q2 : decide (0 ≤ v2) = true := by simp; exact p2
  have HX := Lib.hid hX
  have HP := Lib.hid hP
  have HSS := Lib.hid hSS
  have HR := Lib.hid hR
  have Hv1 := Lib.hid hv1
  have Hv2 := Lib.hid hv2
  have Hbb := Lib.hid hbb
  have Hgt : Hid (S < (R + 1) ^ N) := by rw [← hR]; exact lt_rt hN1
  have HEx : Hid (decide (Ex N P) = true) := decide_eq_true (by rw [← hP, Ex, rt_pow hN1])
  have HRt : Hid (rt N P = X) := by rw [← hP]; exact rt_pow hN1
  have b1 : decide ((4 : Int) < (n : Int)) = false := by simp; omega
  clear hX hP hSS hR hv1 hv2 hbb
  rcases hor with ⟨rfl, rfl⟩ | ⟨rfl, rfl⟩
  · go_enter Tryd.func5, Tryd.ntmps5
    go_wp2_with fail
    refine (Hal.out).mono ?_
    rintro e w1 ⟨rfl, hb⟩
    replace hS := hS.trans (hb.mono hS.size)
    replace hT := hT.below hb
    replace hA := hA.below hb
    clear hb
    go_wp2_with fail
    refine (pow_len 4 12 _ _ _ _ N _ hA (by omega) (by omega) (by decide) (by decide) (by decide)).mono ?_
    rintro e w2 ⟨A_pp, m_pp, c_pp, pp, rfl, hm_pp, h_pp, hbare, hv, hb⟩
    have H_pp : Hid (val pp = P) := by rw [hv, HX.out, HP.out]; rfl
    have B_pp := Lib.hid hbare
    replace hS := hS.trans (hb.mono hS.size)
    replace hT := hT.below hb
    replace hA := hA.below hb
    clear hb hv hbare
    go_wp2_with fail
    refine (root_any N true _ _ _ _ _ h_pp (by omega) hT hN1 (by omega) (by have := h_pp.blen_le; omega) (by rw [H_pp.out]; exact HEx)).mono ?_
    rintro e w3 ⟨A_xx, m_xx, c_xx, xx, rfl, hm_xx, h_xx, hbare, hv, hb⟩
    have H_xx : Hid (val xx = X) := by rw [hv, H_pp.out, HRt.out]; rfl
    have B_xx := Lib.hid hbare
    replace hS := hS.trans (hb.mono hS.size)
    replace hT := hT.below hb
    replace hA := hA.below hb
    replace h_pp := h_pp.below hb
    clear hb hv hbare
    go_wp2_with fail
    refine (cmp_b 0 _ _ _ _ _ _ _ _ _ h_xx hA (by omega) (by omega) (cmpZ_eq (by rw [H_xx.out, HX.out]))).mono ?_
    rintro e w4 ⟨rfl, hb⟩
    replace hS := hS.trans (hb.mono hS.size)
    replace hT := hT.below hb
    replace hA := hA.below hb
    replace h_pp := h_pp.below hb
    replace h_xx := h_xx.below hb
    clear hb
    clear h_xx
    go_wp2_with fail
    refine (add_any _ _ _ _ _ _ _ _ _ (h_pp.alloc _) (lim_new1 w4 33 M M rfl hM) (by omega) (by decide)).mono ?_
    rintro e w5 ⟨A_ss, m_ss, c_ss, ss, rfl, hm_ss, h_ss, hbare, hv, hb⟩
    have H_ss : Hid (val ss = S) := by rw [hv, H_pp.out, val_one, HSS.out]; rfl
    have B_ss := Lib.hid hbare
    replace hb := below_new hb
    replace hS := hS.trans (hb.mono hS.size)
    replace hT := hT.below hb
    replace hA := hA.below hb
    replace h_pp := h_pp.below hb
    clear hb hv hbare
    clear h_pp
    go_wp2_with fail
    refine (root_any N true _ _ _ _ _ h_ss (by omega) hT hN1 (by omega) (by have := h_ss.blen_le; omega) (by rw [H_ss.out]; exact Hbb)).mono ?_
    rintro e w6 ⟨A_yy, m_yy, c_yy, yy, rfl, hm_yy, h_yy, hbare, hv, hb⟩
    have H_yy : Hid (val yy = R) := by rw [hv, H_ss.out, HR.out]; rfl
    have B_yy := Lib.hid hbare
    replace hS := hS.trans (hb.mono hS.size)
    replace hT := hT.below hb
    replace hA := hA.below hb
    replace h_ss := h_ss.below hb
    clear hb hv hbare
    go_wp2_with fail
    refine (pow_len 50 12 _ _ _ _ N _ h_yy (by omega) (by omega) (by decide) (by decide) (by decide)).mono ?_
    rintro e w7 ⟨A_qq, m_qq, c_qq, qq, rfl, hm_qq, h_qq, hbare, hv, hb⟩
    have H_qq : Hid (val qq = R ^ N) := by rw [hv, H_yy.out]; rfl
    have B_qq := Lib.hid hbare
    replace hS := hS.trans (hb.mono hS.size)
    replace hT := hT.below hb
    replace hA := hA.below hb
    replace h_ss := h_ss.below hb
    replace h_yy := h_yy.below hb
    clear hb hv hbare
    go_wp2_with fail
    refine (add_any _ _ _ _ _ _ _ _ _ (h_yy.alloc _) (lim_new1 w7 33 1 1 rfl (by decide)) (by omega) (by decide)).mono ?_
    rintro e w8 ⟨A_y1, m_y1, c_y1, y1, rfl, hm_y1, h_y1, hbare, hv, hb⟩
    have H_y1 : Hid (val y1 = R + 1) := by rw [hv, H_yy.out]; rfl
    have B_y1 := Lib.hid hbare
    replace hb := below_new hb
    replace hS := hS.trans (hb.mono hS.size)
    replace hT := hT.below hb
    replace hA := hA.below hb
    replace h_ss := h_ss.below hb
    replace h_yy := h_yy.below hb
    replace h_qq := h_qq.below hb
    clear hb hv hbare
    go_wp2_with fail
    refine (pow_len 51 12 _ _ _ _ N _ h_y1 (by omega) (by omega) (by decide) (by decide) (by decide)).mono ?_
    rintro e w9 ⟨A_uu, m_uu, c_uu, uu, rfl, hm_uu, h_uu, hbare, hv, hb⟩
    have H_uu : Hid (val uu = (R + 1) ^ N) := by rw [hv, H_y1.out]; rfl
    have B_uu := Lib.hid hbare
    replace hS := hS.trans (hb.mono hS.size)
    replace hT := hT.below hb
    replace hA := hA.below hb
    replace h_ss := h_ss.below hb
    replace h_yy := h_yy.below hb
    replace h_qq := h_qq.below hb
    replace h_y1 := h_y1.below hb
    clear hb hv hbare
    clear h_y1
    go_wp2_with fail
    refine (cmp_b (0) _ _ _ _ _ _ _ _ _ h_qq h_ss (by omega) (by omega) (by rw [H_qq.out, H_ss.out]; exact Hv1)).mono ?_
    rintro e w10 ⟨rfl, hb⟩
    replace hS := hS.trans (hb.mono hS.size)
    replace hT := hT.below hb
    replace hA := hA.below hb
    replace h_ss := h_ss.below hb
    replace h_yy := h_yy.below hb
    replace h_qq := h_qq.below hb
    replace h_uu := h_uu.below hb
    clear hb
    go_wp2_with fail
    refine (cmp_b 1 _ _ _ _ _ _ _ _ _ h_uu h_ss (by omega) (by omega) (cmpZ_gt (by rw [H_uu.out, H_ss.out]; exact Hgt.out))).mono ?_
    rintro e w11 ⟨rfl, hb⟩
    replace hS := hS.trans (hb.mono hS.size)
    replace hT := hT.below hb
    replace hA := hA.below hb
    replace h_ss := h_ss.below hb
    replace h_yy := h_yy.below hb
    replace h_qq := h_qq.below hb
    replace h_uu := h_uu.below hb
    clear hb
    go_wp2_with fail
    refine (cmp_b (0) _ _ _ _ _ _ _ _ _ h_qq h_ss (by omega) (by omega) (by rw [H_qq.out, H_ss.out]; exact Hv1)).mono ?_
    rintro e w12 ⟨rfl, hb⟩
    replace hS := hS.trans (hb.mono hS.size)
    replace hT := hT.below hb
    replace hA := hA.below hb
    replace h_ss := h_ss.below hb
    replace h_yy := h_yy.below hb
    replace h_qq := h_qq.below hb
    replace h_uu := h_uu.below hb
    clear hb
    go_wp2_with fail
    refine (cmp_b v2 _ _ _ _ _ _ _ _ _ h_yy hA (by omega) (by omega) (by rw [H_yy.out, HX.out]; exact Hv2)).mono ?_
    rintro e w13 ⟨rfl, hb⟩
    replace hS := hS.trans (hb.mono hS.size)
    replace hT := hT.below hb
    replace hA := hA.below hb
    replace h_ss := h_ss.below hb
    replace h_yy := h_yy.below hb
    replace h_qq := h_qq.below hb
    replace h_uu := h_uu.below hb
    clear hb
    go_wp2
    go_ret
    exact ⟨rfl, hS⟩
  · go_enter Tryd.func5, Tryd.ntmps5
    go_wp2_with fail
    refine (Hal.out).mono ?_
    rintro e w1 ⟨rfl, hb⟩
    replace hS := hS.trans (hb.mono hS.size)
    replace hT := hT.below hb
    replace hA := hA.below hb
    clear hb
    go_wp2_with fail
    refine (pow_len 4 12 _ _ _ _ N _ hA (by omega) (by omega) (by decide) (by decide) (by decide)).mono ?_
    rintro e w2 ⟨A_pp, m_pp, c_pp, pp, rfl, hm_pp, h_pp, hbare, hv, hb⟩
    have H_pp : Hid (val pp = P) := by rw [hv, HX.out, HP.out]; rfl
    have B_pp := Lib.hid hbare
    replace hS := hS.trans (hb.mono hS.size)
    replace hT := hT.below hb
    replace hA := hA.below hb
    clear hb hv hbare
    go_wp2_with fail
    refine (root_any N true _ _ _ _ _ h_pp (by omega) hT hN1 (by omega) (by have := h_pp.blen_le; omega) (by rw [H_pp.out]; exact HEx)).mono ?_
    rintro e w3 ⟨A_xx, m_xx, c_xx, xx, rfl, hm_xx, h_xx, hbare, hv, hb⟩
    have H_xx : Hid (val xx = X) := by rw [hv, H_pp.out, HRt.out]; rfl
    have B_xx := Lib.hid hbare
    replace hS := hS.trans (hb.mono hS.size)
    replace hT := hT.below hb
    replace hA := hA.below hb
    replace h_pp := h_pp.below hb
    clear hb hv hbare
    go_wp2_with fail
    refine (cmp_b 0 _ _ _ _ _ _ _ _ _ h_xx hA (by omega) (by omega) (cmpZ_eq (by rw [H_xx.out, HX.out]))).mono ?_
    rintro e w4 ⟨rfl, hb⟩
    replace hS := hS.trans (hb.mono hS.size)
    replace hT := hT.below hb
    replace hA := hA.below hb
    replace h_pp := h_pp.below hb
    replace h_xx := h_xx.below hb
    clear hb
    clear h_xx
    go_wp2_with fail
    refine (add_any _ _ _ _ _ _ _ _ _ (h_pp.alloc _) (lim_new1 w4 33 M M rfl hM) (by omega) (by decide)).mono ?_
    rintro e w5 ⟨A_ss, m_ss, c_ss, ss, rfl, hm_ss, h_ss, hbare, hv, hb⟩
    have H_ss : Hid (val ss = S) := by rw [hv, H_pp.out, val_one, HSS.out]; rfl
    have B_ss := Lib.hid hbare
    replace hb := below_new hb
    replace hS := hS.trans (hb.mono hS.size)
    replace hT := hT.below hb
    replace hA := hA.below hb
    replace h_pp := h_pp.below hb
    clear hb hv hbare
    clear h_pp
    go_wp2_with fail
    refine (root_any N false _ _ _ _ _ h_ss (by omega) hT hN1 (by omega) (by have := h_ss.blen_le; omega) (by rw [H_ss.out]; exact Hbb)).mono ?_
    rintro e w6 ⟨A_yy, m_yy, c_yy, yy, rfl, hm_yy, h_yy, hbare, hv, hb⟩
    have H_yy : Hid (val yy = R) := by rw [hv, H_ss.out, HR.out]; rfl
    have B_yy := Lib.hid hbare
    replace hS := hS.trans (hb.mono hS.size)
    replace hT := hT.below hb
    replace hA := hA.below hb
    replace h_ss := h_ss.below hb
    clear hb hv hbare
    go_wp2_with fail
    refine (pow_len 50 12 _ _ _ _ N _ h_yy (by omega) (by omega) (by decide) (by decide) (by decide)).mono ?_
    rintro e w7 ⟨A_qq, m_qq, c_qq, qq, rfl, hm_qq, h_qq, hbare, hv, hb⟩
    have H_qq : Hid (val qq = R ^ N) := by rw [hv, H_yy.out]; rfl
    have B_qq := Lib.hid hbare
    replace hS := hS.trans (hb.mono hS.size)
    replace hT := hT.below hb
    replace hA := hA.below hb
    replace h_ss := h_ss.below hb
    replace h_yy := h_yy.below hb
    clear hb hv hbare
    go_wp2_with fail
    refine (add_any _ _ _ _ _ _ _ _ _ (h_yy.alloc _) (lim_new1 w7 33 1 1 rfl (by decide)) (by omega) (by decide)).mono ?_
    rintro e w8 ⟨A_y1, m_y1, c_y1, y1, rfl, hm_y1, h_y1, hbare, hv, hb⟩
    have H_y1 : Hid (val y1 = R + 1) := by rw [hv, H_yy.out]; rfl
    have B_y1 := Lib.hid hbare
    replace hb := below_new hb
    replace hS := hS.trans (hb.mono hS.size)
    replace hT := hT.below hb
    replace hA := hA.below hb
    replace h_ss := h_ss.below hb
    replace h_yy := h_yy.below hb
    replace h_qq := h_qq.below hb
    clear hb hv hbare
    go_wp2_with fail
    refine (pow_len 51 12 _ _ _ _ N _ h_y1 (by omega) (by omega) (by decide) (by decide) (by decide)).mono ?_
    rintro e w9 ⟨A_uu, m_uu, c_uu, uu, rfl, hm_uu, h_uu, hbare, hv, hb⟩
    have H_uu : Hid (val uu = (R + 1) ^ N) := by rw [hv, H_y1.out]; rfl
    have B_uu := Lib.hid hbare
    replace hS := hS.trans (hb.mono hS.size)
    replace hT := hT.below hb
    replace hA := hA.below hb
    replace h_ss := h_ss.below hb
    replace h_yy := h_yy.below hb
    replace h_qq := h_qq.below hb
    replace h_y1 := h_y1.below hb
    clear hb hv hbare
    clear h_y1
    go_wp2_with fail
    refine (cmp_b (-1) _ _ _ _ _ _ _ _ _ h_qq h_ss (by omega) (by omega) (by rw [H_qq.out, H_ss.out]; exact Hv1)).mono ?_
    rintro e w10 ⟨rfl, hb⟩
    replace hS := hS.trans (hb.mono hS.size)
    replace hT := hT.below hb
    replace hA := hA.below hb
    replace h_ss := h_ss.below hb
    replace h_yy := h_yy.below hb
    replace h_qq := h_qq.below hb
    replace h_uu := h_uu.below hb
    clear hb
    go_wp2_with fail
    refine (cmp_b 1 _ _ _ _ _ _ _ _ _ h_uu h_ss (by omega) (by omega) (cmpZ_gt (by rw [H_uu.out, H_ss.out]; exact Hgt.out))).mono ?_
    rintro e w11 ⟨rfl, hb⟩
    replace hS := hS.trans (hb.mono hS.size)
    replace hT := hT.below hb
    replace hA := hA.below hb
    replace h_ss := h_ss.below hb
    replace h_yy := h_yy.below hb
    replace h_qq := h_qq.below hb
    replace h_uu := h_uu.below hb
    clear hb
    go_wp2_with fail
    refine (cmp_b (-1) _ _ _ _ _ _ _ _ _ h_qq h_ss (by omega) (by omega) (by rw [H_qq.out, H_ss.out]; exact Hv1)).mono ?_
    rintro e w12 ⟨rfl, hb⟩
    replace hS := hS.trans (hb.mono hS.size)
    replace hT := hT.below hb
    replace hA := hA.below hb
    replace h_ss := h_ss.below hb
    replace h_yy := h_yy.below hb
    replace h_qq := h_qq.below hb
    replace h_uu := h_uu.below hb
    clear hb
    go_wp2_with fail
    refine (cmp_b v2 _ _ _ _ _ _ _ _ _ h_yy hA (by omega) (by omega) (by rw [H_yy.out, HX.out]; exact Hv2)).mono ?_
    rintro e w13 ⟨rfl, hb⟩
    replace hS := hS.trans (hb.mono hS.size)
    replace hT := hT.below hb
    replace hA := hA.below hb
    replace h_ss := h_ss.below hb
    replace h_yy := h_yy.below hb
    replace h_qq := h_qq.below hb
    replace h_uu := h_uu.below hb
    clear hb
    go_wp2
    go_ret
    exact ⟨rfl, hS⟩

theorem walk_rootPowers (A : Option Addr) (n c : Nat) (xs : List Nat) (i k : Int) (w : World) (hT : Tab w)
    (hA : Lim w A n c xs) (hn : n ≤ 9223372036854775807) (hi : 0 ≤ i) (hi2 : i ≤ 255) (hk : 0 ≤ k) (hk2 : k ≤ 18446744073709551615) :
    Calls Tryd.prog 5 #[.slice A n c, .int .u8 i, .int .u64 k] w fun e w' => e = .returned (.bool true) ∧ Below w.heap.size w w' := by
  by_cases h : 4 < n
  · exact rpowers_far A n c i k w hT hn h
  · have := rpowers_near A n c xs i k.toNat w hT hA (by omega) hi hi2 (by omega)
    rwa [Int.toNat_of_nonneg hk] at this
end Go.Proofs.YtkgbgmhkbigjhaaDoor
