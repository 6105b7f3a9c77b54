/- The walk of the law RootNest. (Written by law_rnest.py.) -/
import Derived.Test.YtkgbgmhkbigjhaaDoorRAlive
namespace Go.Proofs.YtkgbgmhkbigjhaaDoor
open Go.RowKit

set_option maxHeartbeats 4000000 in
set_option maxRecDepth 100000 in
theorem rnest_far (A : Option Addr) (n c : Nat) (B : Option Addr) (m d : Nat) (i k : Int) (w : World) (hT : Tab w)
    (hn : n ≤ 9223372036854775807) (hm : m ≤ 9223372036854775807) (hfar : 8 < n ∨ 8 < m) :
    Calls Tryd.prog 6 #[.slice A n c, .slice B m d, .int .u8 i, .int .u8 k] w fun e w' => e = .returned (.bool true) ∧ Below w.heap.size w w' := by
  have Hal := Lib.hid (ralive_any w hT)
  have g : decide ((8 : Int) < (n : Int)) = true ∨ (decide ((8 : Int) < (n : Int)) = false ∧ decide ((8 : Int) < (m : Int)) = true) := by
    by_cases h1 : 8 < n
    · exact Or.inl (by simp; omega)
    · exact Or.inr ⟨by simp; omega, by simp; omega⟩
  clear hfar hT
  rcases g with b1 | ⟨b1, b2⟩
  all_goals
    go_enter Tryd.func6, Tryd.ntmps6
    go_wp2_with fail
    refine Hal.out.mono ?_
    rintro e w1 ⟨rfl, hb⟩
    go_wp2
    go_ret
    exact ⟨rfl, hb⟩

set_option maxHeartbeats 8000000 in
set_option maxRecDepth 100000 in
theorem rnest_near (A : Option Addr) (n c : Nat) (xs : List Nat) (B : Option Addr) (m d : Nat) (ys : List Nat) (i k : Int) (w : World) (hT : Tab w)
    (hA : Lim w A n c xs) (hB : Lim w B m d ys) (hn : n ≤ 8) (hm : m ≤ 8) (hi : 0 ≤ i) (hi2 : i ≤ 255) (hk : 0 ≤ k) (hk2 : k ≤ 255) :
    Calls Tryd.prog 6 #[.slice A n c, .slice B m d, .int .u8 i, .int .u8 k] w fun e w' => e = .returned (.bool true) ∧ Below w.heap.size w w' := by
  have Hal := Lib.hid (ralive_any w hT)
  have hS : Below w.heap.size w w := Below.refl _ _
  obtain ⟨X, hX⟩ : ∃ X, val xs = X := ⟨_, rfl⟩
  obtain ⟨Y, hY⟩ : ∃ Y, val ys = Y := ⟨_, rfl⟩
  obtain ⟨p, M, hp, eM, hM1, hM⟩ : ∃ p M : Nat, i % 6 = (p : Int) ∧ 1 + (p : Int) = (M : Int) ∧ 1 ≤ M ∧ M ≤ 6 := ⟨(i % 6).toNat, (i % 6).toNat + 1, by omega, by omega, by omega, by omega⟩
  obtain ⟨q, N, hq, eN, hN1, hN⟩ : ∃ q N : Nat, k % 6 = (q : Int) ∧ 1 + (q : Int) = (N : Int) ∧ 1 ≤ N ∧ N ≤ 6 := ⟨(k % 6).toNat, (k % 6).toNat + 1, by omega, by omega, by omega, by omega⟩
  obtain ⟨Z, hZ⟩ : ∃ Z, M * N = Z := ⟨_, rfl⟩
  have eZ : (M : Int) * (N : Int) = (Z : Int) := by rw [← hZ]; exact (Int.natCast_mul M N).symm
  have hZ1 : 1 ≤ Z := by rw [← hZ]; exact Nat.mul_pos hM1 hN1
  have hZ36 : Z ≤ 36 := by rw [← hZ]; exact Nat.mul_le_mul hM hN
  obtain ⟨R, hR⟩ : ∃ R, rt M X = R := ⟨_, rfl⟩
  obtain ⟨Q, hQ⟩ : ∃ Q, rt N R = Q := ⟨_, rfl⟩
  obtain ⟨U, hU⟩ : ∃ U, rt M Y = U := ⟨_, rfl⟩
  have HQ2 : Hid (rt Z X = Q) := by rw [← hQ, ← hR, ← hZ, rt_nest hM1 hN1]; exact rfl
  obtain ⟨bx, hbx⟩ : ∃ b, decide (Ex M X) = b := ⟨_, rfl⟩
  obtain ⟨by_, hby⟩ : ∃ b, decide (Ex N R) = b := ⟨_, rfl⟩
  obtain ⟨bz, hbz⟩ : ∃ b, decide (Ex Z X) = b := ⟨_, rfl⟩
  obtain ⟨bu, hbu⟩ : ∃ b, decide (Ex M Y) = b := ⟨_, rfl⟩
  obtain ⟨v, hv⟩ : ∃ v, cmpZ R U = v := ⟨_, rfl⟩
  have hor : (X < Y ∧ v ≤ 0) ∨ (X = Y ∧ v = 0) ∨ (Y < X ∧ 0 ≤ v) := by
    rcases Nat.lt_trichotomy X Y with h | h | h
    · exact Or.inl ⟨h, by rw [← hv, ← hR, ← hU]; exact le_cmpZ (rt_mono hM1 (Nat.le_of_lt h))⟩
    · exact Or.inr (Or.inl ⟨h, by rw [← hv, ← hR, ← hU, h]; exact cmpZ_eq rfl⟩)
    · exact Or.inr (Or.inr ⟨h, by rw [← hv, ← hR, ← hU]; exact cmpZ_nonneg (rt_mono hM1 (Nat.le_of_lt h))⟩)
  have HX := Lib.hid hX
  have HY := Lib.hid hY
  have HR := Lib.hid hR
  have HQ := Lib.hid hQ
  have HU := Lib.hid hU
  have Hbx := Lib.hid hbx
  have Hby := Lib.hid hby
  have Hbz := Lib.hid hbz
  have Hbu := Lib.hid hbu
  have Hv := Lib.hid hv
  have b1 : decide ((8 : Int) < (n : Int)) = false := by simp; omega
  have b2 : decide ((8 : Int) < (m : Int)) = false := by simp; omega
  clear hX hY hZ hR hQ hU hbx hby hbz hbu hv
  rcases hor with ⟨hXY, hv0⟩ | ⟨hXY, hv0⟩ | ⟨hXY, hv0⟩
  · have Hc : Hid (cmpZ X Y = -1) := cmpZ_lt hXY
    have q1 : decide (v ≤ 0) = true := by simp; exact hv0
    clear hXY
    go_enter Tryd.func6, Tryd.ntmps6
    go_wp2_with fail
    refine (Hal.out).mono ?_
    rintro e w1 ⟨rfl, hb⟩
    replace hS := hS.trans (hb.mono hS.size)
    replace hT := hT.below hb
    replace hA := hA.below hb
    replace hB := hB.below hb
    clear hb
    go_wp2_with fail
    refine (root_any M bx _ _ _ _ _ hA (by omega) hT hM1 (by omega) (by have := hA.blen_le; omega) (by rw [HX.out]; exact Hbx)).mono ?_
    rintro e w2 ⟨A_xx, m_xx, c_xx, xx, rfl, hm_xx, h_xx, hbare, hv, hb⟩
    have H_xx : Hid (val xx = R) := by rw [hv, HX.out, HR.out]; rfl
    have B_xx := Lib.hid hbare
    replace hS := hS.trans (hb.mono hS.size)
    replace hT := hT.below hb
    replace hA := hA.below hb
    replace hB := hB.below hb
    clear hb hv hbare
    go_wp2_with fail
    refine (root_any N by_ _ _ _ _ _ h_xx (by omega) hT hN1 (by omega) (by have := h_xx.blen_le; omega) (by rw [H_xx.out]; exact Hby)).mono ?_
    rintro e w3 ⟨A_yy, m_yy, c_yy, yy, rfl, hm_yy, h_yy, hbare, hv, hb⟩
    have H_yy : Hid (val yy = Q) := by rw [hv, H_xx.out, HQ.out]; rfl
    have B_yy := Lib.hid hbare
    replace hS := hS.trans (hb.mono hS.size)
    replace hT := hT.below hb
    replace hA := hA.below hb
    replace hB := hB.below hb
    replace h_xx := h_xx.below hb
    clear hb hv hbare
    go_wp2_with fail
    refine (root_any Z bz _ _ _ _ _ hA (by omega) hT hZ1 (by omega) (by have := hA.blen_le; omega) (by rw [HX.out]; exact Hbz)).mono ?_
    rintro e w4 ⟨A_zz, m_zz, c_zz, zz, rfl, hm_zz, h_zz, hbare, hv, hb⟩
    have H_zz : Hid (val zz = Q) := by rw [hv, HX.out, HQ2.out]; rfl
    have B_zz := Lib.hid hbare
    replace hS := hS.trans (hb.mono hS.size)
    replace hT := hT.below hb
    replace hA := hA.below hb
    replace hB := hB.below hb
    replace h_xx := h_xx.below hb
    replace h_yy := h_yy.below hb
    clear hb hv hbare
    go_wp2_with fail
    refine (cmp_b 0 _ _ _ _ _ _ _ _ _ h_yy h_zz (by omega) (by omega) (cmpZ_eq (by rw [H_yy.out, H_zz.out]))).mono ?_
    rintro e w5 ⟨rfl, hb⟩
    replace hS := hS.trans (hb.mono hS.size)
    replace hT := hT.below hb
    replace hA := hA.below hb
    replace hB := hB.below hb
    replace h_xx := h_xx.below hb
    replace h_yy := h_yy.below hb
    replace h_zz := h_zz.below hb
    clear hb
    clear h_yy h_zz
    go_wp2_with fail
    refine (root_any M bu _ _ _ _ _ hB (by omega) hT hM1 (by omega) (by have := hB.blen_le; omega) (by rw [HY.out]; exact Hbu)).mono ?_
    rintro e w6 ⟨A_uu, m_uu, c_uu, uu, rfl, hm_uu, h_uu, hbare, hv, hb⟩
    have H_uu : Hid (val uu = U) := by rw [hv, HY.out, HU.out]; rfl
    have B_uu := Lib.hid hbare
    replace hS := hS.trans (hb.mono hS.size)
    replace hT := hT.below hb
    replace hA := hA.below hb
    replace hB := hB.below hb
    replace h_xx := h_xx.below hb
    clear hb hv hbare
    go_wp2_with fail
    refine (cmp_b (-1) _ _ _ _ _ _ _ _ _ hA hB (by omega) (by omega) (by rw [HX.out, HY.out]; exact Hc)).mono ?_
    rintro e w7 ⟨rfl, hb⟩
    replace hS := hS.trans (hb.mono hS.size)
    replace hT := hT.below hb
    replace hA := hA.below hb
    replace hB := hB.below hb
    replace h_xx := h_xx.below hb
    replace h_uu := h_uu.below hb
    clear hb
    go_wp2_with fail
    refine (cmp_b v _ _ _ _ _ _ _ _ _ h_xx h_uu (by omega) (by omega) (by rw [H_xx.out, H_uu.out]; exact Hv)).mono ?_
    rintro e w8 ⟨rfl, hb⟩
    replace hS := hS.trans (hb.mono hS.size)
    replace hT := hT.below hb
    replace hA := hA.below hb
    replace hB := hB.below hb
    replace h_xx := h_xx.below hb
    replace h_uu := h_uu.below hb
    clear hb
    go_wp2
    go_ret
    exact ⟨rfl, hS⟩
  · have Hc : Hid (cmpZ X Y = 0) := cmpZ_eq hXY
    subst hv0
    clear hXY
    go_enter Tryd.func6, Tryd.ntmps6
    go_wp2_with fail
    refine (Hal.out).mono ?_
    rintro e w1 ⟨rfl, hb⟩
    replace hS := hS.trans (hb.mono hS.size)
    replace hT := hT.below hb
    replace hA := hA.below hb
    replace hB := hB.below hb
    clear hb
    go_wp2_with fail
    refine (root_any M bx _ _ _ _ _ hA (by omega) hT hM1 (by omega) (by have := hA.blen_le; omega) (by rw [HX.out]; exact Hbx)).mono ?_
    rintro e w2 ⟨A_xx, m_xx, c_xx, xx, rfl, hm_xx, h_xx, hbare, hv, hb⟩
    have H_xx : Hid (val xx = R) := by rw [hv, HX.out, HR.out]; rfl
    have B_xx := Lib.hid hbare
    replace hS := hS.trans (hb.mono hS.size)
    replace hT := hT.below hb
    replace hA := hA.below hb
    replace hB := hB.below hb
    clear hb hv hbare
    go_wp2_with fail
    refine (root_any N by_ _ _ _ _ _ h_xx (by omega) hT hN1 (by omega) (by have := h_xx.blen_le; omega) (by rw [H_xx.out]; exact Hby)).mono ?_
    rintro e w3 ⟨A_yy, m_yy, c_yy, yy, rfl, hm_yy, h_yy, hbare, hv, hb⟩
    have H_yy : Hid (val yy = Q) := by rw [hv, H_xx.out, HQ.out]; rfl
    have B_yy := Lib.hid hbare
    replace hS := hS.trans (hb.mono hS.size)
    replace hT := hT.below hb
    replace hA := hA.below hb
    replace hB := hB.below hb
    replace h_xx := h_xx.below hb
    clear hb hv hbare
    go_wp2_with fail
    refine (root_any Z bz _ _ _ _ _ hA (by omega) hT hZ1 (by omega) (by have := hA.blen_le; omega) (by rw [HX.out]; exact Hbz)).mono ?_
    rintro e w4 ⟨A_zz, m_zz, c_zz, zz, rfl, hm_zz, h_zz, hbare, hv, hb⟩
    have H_zz : Hid (val zz = Q) := by rw [hv, HX.out, HQ2.out]; rfl
    have B_zz := Lib.hid hbare
    replace hS := hS.trans (hb.mono hS.size)
    replace hT := hT.below hb
    replace hA := hA.below hb
    replace hB := hB.below hb
    replace h_xx := h_xx.below hb
    replace h_yy := h_yy.below hb
    clear hb hv hbare
    go_wp2_with fail
    refine (cmp_b 0 _ _ _ _ _ _ _ _ _ h_yy h_zz (by omega) (by omega) (cmpZ_eq (by rw [H_yy.out, H_zz.out]))).mono ?_
    rintro e w5 ⟨rfl, hb⟩
    replace hS := hS.trans (hb.mono hS.size)
    replace hT := hT.below hb
    replace hA := hA.below hb
    replace hB := hB.below hb
    replace h_xx := h_xx.below hb
    replace h_yy := h_yy.below hb
    replace h_zz := h_zz.below hb
    clear hb
    clear h_yy h_zz
    go_wp2_with fail
    refine (root_any M bu _ _ _ _ _ hB (by omega) hT hM1 (by omega) (by have := hB.blen_le; omega) (by rw [HY.out]; exact Hbu)).mono ?_
    rintro e w6 ⟨A_uu, m_uu, c_uu, uu, rfl, hm_uu, h_uu, hbare, hv, hb⟩
    have H_uu : Hid (val uu = U) := by rw [hv, HY.out, HU.out]; rfl
    have B_uu := Lib.hid hbare
    replace hS := hS.trans (hb.mono hS.size)
    replace hT := hT.below hb
    replace hA := hA.below hb
    replace hB := hB.below hb
    replace h_xx := h_xx.below hb
    clear hb hv hbare
    go_wp2_with fail
    refine (cmp_b 0 _ _ _ _ _ _ _ _ _ hA hB (by omega) (by omega) (by rw [HX.out, HY.out]; exact Hc)).mono ?_
    rintro e w7 ⟨rfl, hb⟩
    replace hS := hS.trans (hb.mono hS.size)
    replace hT := hT.below hb
    replace hA := hA.below hb
    replace hB := hB.below hb
    replace h_xx := h_xx.below hb
    replace h_uu := h_uu.below hb
    clear hb
    go_wp2_with fail
    refine (cmp_b 0 _ _ _ _ _ _ _ _ _ h_xx h_uu (by omega) (by omega) (by rw [H_xx.out, H_uu.out]; exact Hv)).mono ?_
    rintro e w8 ⟨rfl, hb⟩
    replace hS := hS.trans (hb.mono hS.size)
    replace hT := hT.below hb
    replace hA := hA.below hb
    replace hB := hB.below hb
    replace h_xx := h_xx.below hb
    replace h_uu := h_uu.below hb
    clear hb
    go_wp2_with fail
    refine (cmp_b 0 _ _ _ _ _ _ _ _ _ h_xx h_uu (by omega) (by omega) (by rw [H_xx.out, H_uu.out]; exact Hv)).mono ?_
    rintro e w9 ⟨rfl, hb⟩
    replace hS := hS.trans (hb.mono hS.size)
    replace hT := hT.below hb
    replace hA := hA.below hb
    replace hB := hB.below hb
    replace h_xx := h_xx.below hb
    replace h_uu := h_uu.below hb
    clear hb
    go_wp2
    go_ret
    exact ⟨rfl, hS⟩
  · have Hc : Hid (cmpZ X Y = 1) := cmpZ_gt hXY
    have q1 : decide (0 ≤ v) = true := by simp; exact hv0
    clear hXY
    go_enter Tryd.func6, Tryd.ntmps6
    go_wp2_with fail
    refine (Hal.out).mono ?_
    rintro e w1 ⟨rfl, hb⟩
    replace hS := hS.trans (hb.mono hS.size)
    replace hT := hT.below hb
    replace hA := hA.below hb
    replace hB := hB.below hb
    clear hb
    go_wp2_with fail
    refine (root_any M bx _ _ _ _ _ hA (by omega) hT hM1 (by omega) (by have := hA.blen_le; omega) (by rw [HX.out]; exact Hbx)).mono ?_
    rintro e w2 ⟨A_xx, m_xx, c_xx, xx, rfl, hm_xx, h_xx, hbare, hv, hb⟩
    have H_xx : Hid (val xx = R) := by rw [hv, HX.out, HR.out]; rfl
    have B_xx := Lib.hid hbare
    replace hS := hS.trans (hb.mono hS.size)
    replace hT := hT.below hb
    replace hA := hA.below hb
    replace hB := hB.below hb
    clear hb hv hbare
    go_wp2_with fail
    refine (root_any N by_ _ _ _ _ _ h_xx (by omega) hT hN1 (by omega) (by have := h_xx.blen_le; omega) (by rw [H_xx.out]; exact Hby)).mono ?_
    rintro e w3 ⟨A_yy, m_yy, c_yy, yy, rfl, hm_yy, h_yy, hbare, hv, hb⟩
    have H_yy : Hid (val yy = Q) := by rw [hv, H_xx.out, HQ.out]; rfl
    have B_yy := Lib.hid hbare
    replace hS := hS.trans (hb.mono hS.size)
    replace hT := hT.below hb
    replace hA := hA.below hb
    replace hB := hB.below hb
    replace h_xx := h_xx.below hb
    clear hb hv hbare
    go_wp2_with fail
    refine (root_any Z bz _ _ _ _ _ hA (by omega) hT hZ1 (by omega) (by have := hA.blen_le; omega) (by rw [HX.out]; exact Hbz)).mono ?_
    rintro e w4 ⟨A_zz, m_zz, c_zz, zz, rfl, hm_zz, h_zz, hbare, hv, hb⟩
    have H_zz : Hid (val zz = Q) := by rw [hv, HX.out, HQ2.out]; rfl
    have B_zz := Lib.hid hbare
    replace hS := hS.trans (hb.mono hS.size)
    replace hT := hT.below hb
    replace hA := hA.below hb
    replace hB := hB.below hb
    replace h_xx := h_xx.below hb
    replace h_yy := h_yy.below hb
    clear hb hv hbare
    go_wp2_with fail
    refine (cmp_b 0 _ _ _ _ _ _ _ _ _ h_yy h_zz (by omega) (by omega) (cmpZ_eq (by rw [H_yy.out, H_zz.out]))).mono ?_
    rintro e w5 ⟨rfl, hb⟩
    replace hS := hS.trans (hb.mono hS.size)
    replace hT := hT.below hb
    replace hA := hA.below hb
    replace hB := hB.below hb
    replace h_xx := h_xx.below hb
    replace h_yy := h_yy.below hb
    replace h_zz := h_zz.below hb
    clear hb
    clear h_yy h_zz
    go_wp2_with fail
    refine (root_any M bu _ _ _ _ _ hB (by omega) hT hM1 (by omega) (by have := hB.blen_le; omega) (by rw [HY.out]; exact Hbu)).mono ?_
    rintro e w6 ⟨A_uu, m_uu, c_uu, uu, rfl, hm_uu, h_uu, hbare, hv, hb⟩
    have H_uu : Hid (val uu = U) := by rw [hv, HY.out, HU.out]; rfl
    have B_uu := Lib.hid hbare
    replace hS := hS.trans (hb.mono hS.size)
    replace hT := hT.below hb
    replace hA := hA.below hb
    replace hB := hB.below hb
    replace h_xx := h_xx.below hb
    clear hb hv hbare
    go_wp2_with fail
    refine (cmp_b 1 _ _ _ _ _ _ _ _ _ hA hB (by omega) (by omega) (by rw [HX.out, HY.out]; exact Hc)).mono ?_
    rintro e w7 ⟨rfl, hb⟩
    replace hS := hS.trans (hb.mono hS.size)
    replace hT := hT.below hb
    replace hA := hA.below hb
    replace hB := hB.below hb
    replace h_xx := h_xx.below hb
    replace h_uu := h_uu.below hb
    clear hb
    go_wp2_with fail
    refine (cmp_b v _ _ _ _ _ _ _ _ _ h_xx h_uu (by omega) (by omega) (by rw [H_xx.out, H_uu.out]; exact Hv)).mono ?_
    rintro e w8 ⟨rfl, hb⟩
    replace hS := hS.trans (hb.mono hS.size)
    replace hT := hT.below hb
    replace hA := hA.below hb
    replace hB := hB.below hb
    replace h_xx := h_xx.below hb
    replace h_uu := h_uu.below hb
    clear hb
    go_wp2
    go_ret
    exact ⟨rfl, hS⟩

theorem walk_rootNest (A : Option Addr) (n c : Nat) (xs : List Nat) (B : Option Addr) (m d : Nat) (ys : List Nat) (i k : Int) (w : World) (hT : Tab w)
    (hA : Lim w A n c xs) (hn : n ≤ 9223372036854775807) (hB : Lim w B m d ys) (hm : m ≤ 9223372036854775807) (hi : 0 ≤ i) (hi2 : i ≤ 255) (hk : 0 ≤ k) (hk2 : k ≤ 255) :
    Calls Tryd.prog 6 #[.slice A n c, .slice B m d, .int .u8 i, .int .u8 k] w fun e w' => e = .returned (.bool true) ∧ Below w.heap.size w w' := by
  by_cases h : 8 < n ∨ 8 < m
  · exact rnest_far A n c B m d i k w hT hn hm h
  · exact rnest_near A n c xs B m d ys i k w hT hA hB (by omega) (by omega) hi hi2 hk hk2
end Go.Proofs.YtkgbgmhkbigjhaaDoor
