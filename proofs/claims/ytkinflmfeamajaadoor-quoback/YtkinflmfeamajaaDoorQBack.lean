/- The walk of the law QuoBack. (Written by law_qback.py.) -/
import Derived.Test.YtkinflmfeamajaaDoorQAlive
namespace Go.Proofs.YtkinflmfeamajaaDoor
open Go.RowKit

set_option maxHeartbeats 4000000 in
set_option maxRecDepth 100000 in
theorem qback_far (A : Option Addr) (n c : Nat) (B : Option Addr) (m d : Nat) (C : Option Addr) (l f : Nat) (w : World) (hT : Tab w)
    (hn : n ≤ 9223372036854775807) (hm : m ≤ 9223372036854775807) (hl : l ≤ 9223372036854775807) (hfar : 60 < n ∨ 60 < m ∨ 60 < l) :
    Calls Tryd.prog 4 #[.slice A n c, .slice B m d, .slice C l f] w fun e w' => e = .returned (.bool true) ∧ Below w.heap.size w w' := by
  have Hal := Lib.hid (qalive_any w hT)
  have g : decide ((60 : Int) < (n : Int)) = true ∨ (decide ((60 : Int) < (n : Int)) = false ∧ decide ((60 : Int) < (m : Int)) = true) ∨ (decide ((60 : Int) < (n : Int)) = false ∧ decide ((60 : Int) < (m : Int)) = false ∧ decide ((60 : Int) < (l : Int)) = true) := by
    by_cases h1 : 60 < n
    · exact Or.inl (by simp; omega)
    · by_cases h2 : 60 < m
      · exact Or.inr (Or.inl ⟨by simp; omega, by simp; omega⟩)
      · exact Or.inr (Or.inr ⟨by simp; omega, by simp; omega, by simp; omega⟩)
  clear hfar hT
  rcases g with b1 | ⟨b1, b2⟩ | ⟨b1, b2, b3⟩
  all_goals
    go_enter Tryd.func4, Tryd.ntmps4
    go_wp2_with fail
    refine Hal.out.mono ?_
    rintro e w1 ⟨rfl, hb⟩
    go_wp2
    go_ret
    exact ⟨rfl, hb⟩

theorem less_div {Y Z : Nat} (hY : 0 < Y) (hZ : 0 < Z) : (Y * Z - 1) / Y = Z - 1 ∧ (Y * Z - 1) % Y = Y - 1 := by
  have e : Y * Z = Y * (Z - 1) + Y := by rw [← Nat.mul_succ]; congr 1; omega
  have e2 : Y * Z - 1 = (Y - 1) + Y * (Z - 1) := by omega
  rw [e2, Nat.add_mul_div_left _ _ hY, Nat.add_mul_mod_self_left, Nat.div_eq_of_lt (by omega), Nat.mod_eq_of_lt (by omega), Nat.zero_add]
  exact ⟨rfl, rfl⟩

set_option maxHeartbeats 8000000 in
set_option maxRecDepth 100000 in
theorem qback_near (A : Option Addr) (n c : Nat) (xs : List Nat) (B : Option Addr) (m d : Nat) (ys : List Nat) (C : Option Addr) (l f : Nat) (zs : List Nat) (w : World) (hT : Tab w)
    (hA : Lim w A n c xs) (hB : Lim w B m d ys) (hC : Lim w C l f zs) (hn : n ≤ 60) (hm : m ≤ 60) (hl : l ≤ 60) :
    Calls Tryd.prog 4 #[.slice A n c, .slice B m d, .slice C l f] w fun e w' => e = .returned (.bool true) ∧ Below w.heap.size w w' := by
  have Hal := Lib.hid (qalive_any w hT)
  have hS : Below w.heap.size w w := Below.refl _ _
  obtain ⟨X, hX⟩ : ∃ X, val xs = X := ⟨_, rfl⟩
  obtain ⟨Y, hY⟩ : ∃ Y, val ys = Y := ⟨_, rfl⟩
  obtain ⟨Z, hZ⟩ : ∃ Z, val zs = Z := ⟨_, rfl⟩
  obtain ⟨bl, hbl⟩ : ∃ bl, blen Y = bl := ⟨_, rfl⟩
  have HX := Lib.hid hX
  have HY := Lib.hid hY
  have HZ := Lib.hid hZ
  have Hbl : Hid (blen (val ys) = bl) := by rw [hY]; exact hbl
  have hbz := blen_zero_iff (x := Y)
  rw [hbl] at hbz
  have b1 : decide ((60 : Int) < (n : Int)) = false := by simp; omega
  have b2 : decide ((60 : Int) < (m : Int)) = false := by simp; omega
  have b3 : decide ((60 : Int) < (l : Int)) = false := by simp; omega
  clear hX hY hZ hbl
  by_cases h0 : Y = 0
  · have b4 : ((bl : Int) == 0) = true := beq_iff_eq.2 (by have := hbz.2 h0; omega)
    clear hbz h0
    go_enter Tryd.func4, Tryd.ntmps4
    go_wp2_with fail
    refine (Hal.out).mono ?_
    rintro e w1 ⟨rfl, hb⟩
    replace hS := hS.trans (hb.mono hS.size)
    replace hT := hT.below hb
    replace hA := hA.below hb
    replace hB := hB.below hb
    replace hC := hC.below hb
    clear hb
    go_wp2_with fail
    refine (bits_v bl _ _ _ _ _ hB (by omega) Hbl).mono ?_
    rintro e w' ⟨rfl, rfl⟩
    go_wp2
    go_ret
    exact ⟨rfl, hS⟩
  · have b4 : ((bl : Int) == 0) = false := beq_eq_false_iff_ne.2 (by have := hbz.1; omega)
    have hY0 : 0 < Y := by omega
    have HY0 := Lib.hid hY0
    clear hbz h0 hY0
    go_enter Tryd.func4, Tryd.ntmps4
    go_wp2_with fail
    refine (Hal.out).mono ?_
    rintro e w1 ⟨rfl, hb⟩
    replace hS := hS.trans (hb.mono hS.size)
    replace hT := hT.below hb
    replace hA := hA.below hb
    replace hB := hB.below hb
    replace hC := hC.below hb
    clear hb
    go_wp2_with fail
    refine (bits_v bl _ _ _ _ _ hB (by omega) Hbl).mono ?_
    rintro e w' ⟨rfl, rfl⟩
    go_wp2_with fail
    refine (div_any _ _ _ _ _ _ _ _ _ hA hB (by omega) (by omega) (by rw [HY.out]; have := HY0.out; omega) hT).mono ?_
    rintro e w2 ⟨A_qq, m_qq, c_qq, qq, A_rr, m_rr, c_rr, rr, rfl, hm_qq, hm_rr, h_qq, h_rr, hbq, hbr, hvq, hvr, hb⟩
    have H_qq : Hid (val qq = X / Y) := by rw [hvq, HX.out, HY.out]; rfl
    have H_rr : Hid (val rr = X % Y) := by rw [hvr, HX.out, HY.out]; rfl
    have B_qq := Lib.hid hbq
    have B_rr := Lib.hid hbr
    replace hS := hS.trans (hb.mono hS.size)
    replace hT := hT.below hb
    replace hA := hA.below hb
    replace hB := hB.below hb
    replace hC := hC.below hb
    clear hb hvq hvr hbq hbr
    go_wp2_with fail
    refine (mul_len _ _ _ _ _ _ _ _ _ h_qq hB (by omega)).mono ?_
    rintro e w3 ⟨A_mm, m_mm, c_mm, mm, rfl, hm_mm, h_mm, hbare, hv, hb⟩
    have H_mm : Hid (val mm = X / Y * Y) := by rw [hv, H_qq.out, HY.out]; rfl
    have B_mm := Lib.hid hbare
    replace hS := hS.trans (hb.mono hS.size)
    replace hT := hT.below hb
    replace hA := hA.below hb
    replace hB := hB.below hb
    replace hC := hC.below hb
    replace h_qq := h_qq.below hb
    replace h_rr := h_rr.below hb
    clear hb hv hbare
    go_wp2_with fail
    refine (add_any _ _ _ _ _ _ _ _ _ h_mm h_rr (by omega) (by omega)).mono ?_
    rintro e w4 ⟨A_ss, m_ss, c_ss, ss, rfl, hm_ss, h_ss, hbare, hv, hb⟩
    have H_ss : Hid (val ss = X) := by rw [hv, H_mm.out, H_rr.out]; exact Nat.div_add_mod' _ _
    have B_ss := Lib.hid hbare
    replace hS := hS.trans (hb.mono hS.size)
    replace hT := hT.below hb
    replace hA := hA.below hb
    replace hB := hB.below hb
    replace hC := hC.below hb
    replace h_qq := h_qq.below hb
    replace h_rr := h_rr.below hb
    replace h_mm := h_mm.below hb
    clear hb hv hbare
    go_wp2_with fail
    refine (cmp_b 0 _ _ _ _ _ _ _ _ _ h_ss hA (by omega) (by omega) (cmpZ_eq (by rw [H_ss.out, HX.out]))).mono ?_
    rintro e w5 ⟨rfl, hb⟩
    replace hS := hS.trans (hb.mono hS.size)
    replace hT := hT.below hb
    replace hA := hA.below hb
    replace hB := hB.below hb
    replace hC := hC.below hb
    replace h_qq := h_qq.below hb
    replace h_rr := h_rr.below hb
    replace h_mm := h_mm.below hb
    replace h_ss := h_ss.below hb
    clear hb
    go_wp2_with fail
    refine (cmp_b (-1) _ _ _ _ _ _ _ _ _ h_rr hB (by omega) (by omega) (cmpZ_lt (by rw [H_rr.out, HY.out]; exact Nat.mod_lt _ HY0.out))).mono ?_
    rintro e w6 ⟨rfl, hb⟩
    replace hS := hS.trans (hb.mono hS.size)
    replace hT := hT.below hb
    replace hA := hA.below hb
    replace hB := hB.below hb
    replace hC := hC.below hb
    replace h_qq := h_qq.below hb
    replace h_rr := h_rr.below hb
    replace h_mm := h_mm.below hb
    replace h_ss := h_ss.below hb
    clear hb
    clear h_qq h_rr h_mm h_ss hA
    go_wp2_with fail
    refine (mul_len _ _ _ _ _ _ _ _ _ hB hC (by omega)).mono ?_
    rintro e w7 ⟨A_pp, m_pp, c_pp, pp, rfl, hm_pp, h_pp, hbare, hv, hb⟩
    have H_pp : Hid (val pp = Y * Z) := by rw [hv, HY.out, HZ.out]; rfl
    have B_pp := Lib.hid hbare
    replace hS := hS.trans (hb.mono hS.size)
    replace hT := hT.below hb
    replace hB := hB.below hb
    replace hC := hC.below hb
    clear hb hv hbare
    go_wp2_with fail
    refine (div_any _ _ _ _ _ _ _ _ _ h_pp hB (by omega) (by omega) (by rw [HY.out]; have := HY0.out; omega) hT).mono ?_
    rintro e w8 ⟨A_sq, m_sq, c_sq, sq, A_tr, m_tr, c_tr, tr, rfl, hm_sq, hm_tr, h_sq, h_tr, hbq, hbr, hvq, hvr, hb⟩
    have H_sq : Hid (val sq = Z) := by rw [hvq, H_pp.out, HY.out]; first | exact Nat.mul_div_cancel_left _ HY0.out | exact Nat.mul_mod_right _ _
    have H_tr : Hid (val tr = 0) := by rw [hvr, H_pp.out, HY.out]; first | exact Nat.mul_div_cancel_left _ HY0.out | exact Nat.mul_mod_right _ _
    have B_sq := Lib.hid hbq
    have B_tr := Lib.hid hbr
    replace hS := hS.trans (hb.mono hS.size)
    replace hT := hT.below hb
    replace hB := hB.below hb
    replace hC := hC.below hb
    replace h_pp := h_pp.below hb
    clear hb hvq hvr hbq hbr
    go_wp2_with fail
    refine (cmp_b 0 _ _ _ _ _ _ _ _ _ h_sq hC (by omega) (by omega) (cmpZ_eq (by rw [H_sq.out, HZ.out]))).mono ?_
    rintro e w9 ⟨rfl, hb⟩
    replace hS := hS.trans (hb.mono hS.size)
    replace hT := hT.below hb
    replace hB := hB.below hb
    replace hC := hC.below hb
    replace h_pp := h_pp.below hb
    replace h_sq := h_sq.below hb
    replace h_tr := h_tr.below hb
    clear hb
    have hz := (bare_zero h_tr B_tr.out).2 H_tr.out
    subst hz
    clear h_sq h_tr
    by_cases hz0 : Z = 0
    · subst hz0
      go_wp2_with fail
      refine (sub_nb _ _ _ _ _ _ _ _ _ (h_pp.alloc _) (lim_new1 w9 23 1 1 rfl (by decide)) (by omega) (by decide) (by rw [H_pp.out, Nat.mul_zero]; decide)).mono ?_
      rintro e w10 ⟨rfl, hb⟩
      replace hb := below_new hb
      replace hS := hS.trans (hb.mono hS.size)
      replace hT := hT.below hb
      replace hB := hB.below hb
      replace hC := hC.below hb
      replace h_pp := h_pp.below hb
      clear hb
      go_wp2_with fail
      refine (bits_v 0 _ _ _ _ _ h_pp (by omega) (by rw [H_pp.out, Nat.mul_zero]; rfl)).mono ?_
      rintro e w' ⟨rfl, rfl⟩
      go_wp2
      go_ret
      exact ⟨rfl, hS⟩
    · have hz1 : 0 < Z := by omega
      have Hz1 := Lib.hid hz1
      have Hyz := Lib.hid (less_div HY0.out hz1)
      have hyz : 1 ≤ Y * Z := Nat.mul_pos HY0.out hz1
      have Hle := Lib.hid hyz
      clear hz0 hz1 hyz
      go_wp2_with fail
      refine (sub_any _ _ _ _ _ _ _ _ _ (h_pp.alloc _) (lim_new1 w9 23 1 1 rfl (by decide)) (by omega) (by decide) (by rw [H_pp.out]; exact Hle.out)).mono ?_
      rintro e w10 ⟨A_le, m_le, c_le, le, rfl, hm_le, h_le, hbare, hv, hb⟩
      have H_le : Hid (val le = Y * Z - 1) := by rw [hv, H_pp.out]; rfl
      have B_le := Lib.hid hbare
      replace hb := below_new hb
      replace hS := hS.trans (hb.mono hS.size)
      replace hT := hT.below hb
      replace hB := hB.below hb
      replace hC := hC.below hb
      replace h_pp := h_pp.below hb
      clear hb hv hbare
      go_wp2_with fail
      refine (div_any _ _ _ _ _ _ _ _ _ h_le hB (by omega) (by omega) (by rw [HY.out]; have := HY0.out; omega) hT).mono ?_
      rintro e w11 ⟨A_uu, m_uu, c_uu, uu, A_vv, m_vv, c_vv, vv, rfl, hm_uu, hm_vv, h_uu, h_vv, hbq, hbr, hvq, hvr, hb⟩
      have H_uu : Hid (val uu = Z - 1) := by rw [hvq, H_le.out, HY.out]; first | exact Hyz.out.1 | exact Hyz.out.2
      have H_vv : Hid (val vv = Y - 1) := by rw [hvr, H_le.out, HY.out]; first | exact Hyz.out.1 | exact Hyz.out.2
      have B_uu := Lib.hid hbq
      have B_vv := Lib.hid hbr
      replace hS := hS.trans (hb.mono hS.size)
      replace hT := hT.below hb
      replace hB := hB.below hb
      replace hC := hC.below hb
      replace h_pp := h_pp.below hb
      replace h_le := h_le.below hb
      clear hb hvq hvr hbq hbr
      go_wp2_with fail
      refine (sub_any _ _ _ _ _ _ _ _ _ (hC.alloc _) (lim_new1 w11 23 1 1 rfl (by decide)) (by omega) (by decide) (by rw [HZ.out]; exact Hz1.out)).mono ?_
      rintro e w12 ⟨A_ww, m_ww, c_ww, ww, rfl, hm_ww, h_ww, hbare, hv, hb⟩
      have H_ww : Hid (val ww = Z - 1) := by rw [hv, HZ.out]; rfl
      have B_ww := Lib.hid hbare
      replace hb := below_new hb
      replace hS := hS.trans (hb.mono hS.size)
      replace hT := hT.below hb
      replace hB := hB.below hb
      replace hC := hC.below hb
      replace h_pp := h_pp.below hb
      replace h_le := h_le.below hb
      replace h_uu := h_uu.below hb
      replace h_vv := h_vv.below hb
      clear hb hv hbare
      go_wp2_with fail
      refine (cmp_b 0 _ _ _ _ _ _ _ _ _ h_uu h_ww (by omega) (by omega) (cmpZ_eq (by rw [H_uu.out, H_ww.out]))).mono ?_
      rintro e w13 ⟨rfl, hb⟩
      replace hS := hS.trans (hb.mono hS.size)
      replace hT := hT.below hb
      replace hB := hB.below hb
      replace hC := hC.below hb
      replace h_pp := h_pp.below hb
      replace h_le := h_le.below hb
      replace h_uu := h_uu.below hb
      replace h_vv := h_vv.below hb
      replace h_ww := h_ww.below hb
      clear hb
      go_wp2_with fail
      refine (add_any _ _ _ _ _ _ _ _ _ (h_vv.alloc _) (lim_new1 w13 23 1 1 rfl (by decide)) (by omega) (by decide)).mono ?_
      rintro e w14 ⟨A_yy, m_yy, c_yy, yy, rfl, hm_yy, h_yy, hbare, hv, hb⟩
      have H_yy : Hid (val yy = Y) := by rw [hv, H_vv.out]; exact Nat.sub_add_cancel HY0.out
      have B_yy := Lib.hid hbare
      replace hb := below_new hb
      replace hS := hS.trans (hb.mono hS.size)
      replace hT := hT.below hb
      replace hB := hB.below hb
      replace hC := hC.below hb
      replace h_pp := h_pp.below hb
      replace h_le := h_le.below hb
      replace h_uu := h_uu.below hb
      replace h_vv := h_vv.below hb
      replace h_ww := h_ww.below hb
      clear hb hv hbare
      go_wp2_with fail
      refine (cmp_b 0 _ _ _ _ _ _ _ _ _ h_yy hB (by omega) (by omega) (cmpZ_eq (by rw [H_yy.out, HY.out]))).mono ?_
      rintro e w15 ⟨rfl, hb⟩
      replace hS := hS.trans (hb.mono hS.size)
      replace hT := hT.below hb
      replace hB := hB.below hb
      replace hC := hC.below hb
      replace h_pp := h_pp.below hb
      replace h_le := h_le.below hb
      replace h_uu := h_uu.below hb
      replace h_vv := h_vv.below hb
      replace h_ww := h_ww.below hb
      replace h_yy := h_yy.below hb
      clear hb
      go_wp2
      go_ret
      exact ⟨rfl, hS⟩

theorem walk_quoBack (A : Option Addr) (n c : Nat) (xs : List Nat) (B : Option Addr) (m d : Nat) (ys : List Nat) (C : Option Addr) (l f : Nat) (zs : List Nat) (w : World) (hT : Tab w)
    (hA : Lim w A n c xs) (hn : n ≤ 9223372036854775807) (hB : Lim w B m d ys) (hm : m ≤ 9223372036854775807) (hC : Lim w C l f zs) (hl : l ≤ 9223372036854775807) :
    Calls Tryd.prog 4 #[.slice A n c, .slice B m d, .slice C l f] w fun e w' => e = .returned (.bool true) ∧ Below w.heap.size w w' := by
  by_cases h : 60 < n ∨ 60 < m ∨ 60 < l
  · exact qback_far A n c B m d C l f w hT hn hm hl h
  · exact qback_near A n c xs B m d ys C l f zs w hT hA hB hC (by omega) (by omega) (by omega)
end Go.Proofs.YtkinflmfeamajaaDoor
