/- The walk of the law QuoDivs. (Written by law_qdivs.py.) -/
import Derived.Test.YtkinflmfeamajaaDoorQAlive
import Derived.Test.YtkinflmfeamajaaDoorQRef
import Derived.Test.YtkinflmfeamajaaDoorWOf
namespace Go.Proofs.YtkinflmfeamajaaDoor
open Go.RowKit

set_option maxHeartbeats 4000000 in
set_option maxRecDepth 100000 in
theorem qdivs_far (A : Option Addr) (n c : Nat) (B : Option Addr) (m d : Nat) (i : Int) (w : World) (hT : Tab w)
    (hn : n ≤ 9223372036854775807) (hm : m ≤ 9223372036854775807) (hfar : 30 < n ∨ 30 < m) :
    Calls Tryd.prog 3 #[.slice A n c, .slice B m d, .int .u64 i] w fun e w' => e = .returned (.bool true) ∧ Below w.heap.size w w' := by
  have Hal := Lib.hid (qalive_any w hT)
  have g : decide ((30 : Int) < (n : Int)) = true ∨ (decide ((30 : Int) < (n : Int)) = false ∧ decide ((30 : Int) < (m : Int)) = true) := by
    by_cases h1 : 30 < n
    · exact Or.inl (by simp; omega)
    · exact Or.inr ⟨by simp; omega, by simp; omega⟩
  clear hfar hT
  rcases g with b1 | ⟨b1, b2⟩
  all_goals
    go_enter Tryd.func3, Tryd.ntmps3
    go_wp2_with fail
    refine Hal.out.mono ?_
    rintro e w1 ⟨rfl, hb⟩
    go_wp2
    go_ret
    exact ⟨rfl, hb⟩

theorem num_one (w : World) : Calls Tryd.prog 13 #[.int .u64 1] w (DTells w 1 4) := by
  have := num_any 1 (by decide) w
  rw [show ((1 : Nat) : Int) = 1 from rfl] at this
  exact this
theorem D.bare_zero {w : World} {A : Option Addr} {n c : Nat} {ds : List Nat} (h : Dig w A n c ds) (hb : D.Bare ds) : n = 0 ↔ D.val ds = 0 := by
  rw [← h.len, ← hb]; exact D.tl_zero_iff

set_option maxHeartbeats 8000000 in
set_option maxRecDepth 100000 in
theorem qdivs_nought (A : Option Addr) (n c : Nat) (xs : List Nat) (B : Option Addr) (m d : Nat) (ys : List Nat) (i : Int) (w : World) (hT : Tab w)
    (hA : Lim w A n c xs) (hB : Lim w B m d ys) (hn : n ≤ 30) (hm : m ≤ 30) (h0 : val ys = 0) :
    Calls Tryd.prog 3 #[.slice A n c, .slice B m d, .int .u64 i] w fun e w' => e = .returned (.bool true) ∧ Below w.heap.size w w' := by
  have Hal := Lib.hid (qalive_any w hT)
  have hS : Below w.heap.size w w := Below.refl _ _
  obtain ⟨X, hX⟩ : ∃ X, val xs = X := ⟨_, rfl⟩
  obtain ⟨Y, hY⟩ : ∃ Y, val ys = Y := ⟨_, rfl⟩
  have HX := Lib.hid hX
  have HY := Lib.hid hY
  have b1 : decide ((30 : Int) < (n : Int)) = false := by simp; omega
  have b2 : decide ((30 : Int) < (m : Int)) = false := by simp; omega
  have H0 : Hid (val ys = 0) := h0
  have H1 : Hid (Y = 0) := by rw [← hY]; exact h0
  clear hX hY h0
  go_enter Tryd.func3, Tryd.ntmps3
  go_wp2_with fail
  refine (Hal.out).mono ?_
  rintro e w1 ⟨rfl, hb⟩
  replace hS := hS.trans (hb.mono hS.size)
  replace hT := hT.below hb
  replace hA := hA.below hb
  replace hB := hB.below hb
  clear hb
  go_wp2_with fail
  refine (to_any _ _ _ _ _ hA (by omega)).mono ?_
  rintro e w2 ⟨A_dx, m_dx, c_dx, dx, rfl, hm_dx, h_dx, hbare, hv, hb⟩
  have H_dx : Hid (D.val dx = X) := by rw [hv, HX.out]; rfl
  have B_dx := Lib.hid hbare
  replace hS := hS.trans (hb.mono hS.size)
  replace hT := hT.below hb
  replace hA := hA.below hb
  replace hB := hB.below hb
  clear hb hv hbare
  go_wp2_with fail
  refine (to_any _ _ _ _ _ hB (by omega)).mono ?_
  rintro e w3 ⟨A_dy, m_dy, c_dy, dy, rfl, hm_dy, h_dy, hbare, hv, hb⟩
  have H_dy : Hid (D.val dy = Y) := by rw [hv, HY.out]; rfl
  have B_dy := Lib.hid hbare
  replace hS := hS.trans (hb.mono hS.size)
  replace hT := hT.below hb
  replace hA := hA.below hb
  replace hB := hB.below hb
  replace h_dx := h_dx.below hb
  clear hb hv hbare
  go_wp2_with fail
  refine (div_nought _ _ _ _ _ _ _ _ _ hA hB (by omega) (by omega) H0.out).mono ?_
  rintro e w' ⟨rfl, rfl⟩
  go_wp2_with fail
  refine (up_nought _ _ _ _ _ _ _ _ _ hA hB (by omega) (by omega) H0.out).mono ?_
  rintro e w' ⟨rfl, rfl⟩
  have hz := (D.bare_zero h_dy B_dy.out).2 (by rw [H_dy.out]; exact H1.out)
  subst hz
  go_wp2
  go_ret
  exact ⟨rfl, hS⟩

set_option maxHeartbeats 8000000 in
set_option maxRecDepth 100000 in
theorem qdivs_even_no (A : Option Addr) (n c : Nat) (xs : List Nat) (B : Option Addr) (m d : Nat) (ys : List Nat) (w : World) (hT : Tab w)
    (hA : Lim w A n c xs) (hB : Lim w B m d ys) (hn : n ≤ 30) (hm : m ≤ 30) (h0 : val ys ≠ 0) (h1 : val xs % val ys = 0) :
    Calls Tryd.prog 3 #[.slice A n c, .slice B m d, .int .u64 0] w fun e w' => e = .returned (.bool true) ∧ Below w.heap.size w w' := by
  have Hal := Lib.hid (qalive_any w hT)
  have hS : Below w.heap.size w w := Below.refl _ _
  obtain ⟨X, hX⟩ : ∃ X, val xs = X := ⟨_, rfl⟩
  obtain ⟨Y, hY⟩ : ∃ Y, val ys = Y := ⟨_, rfl⟩
  have HX := Lib.hid hX
  have HY := Lib.hid hY
  have b1 : decide ((30 : Int) < (n : Int)) = false := by simp; omega
  have b2 : decide ((30 : Int) < (m : Int)) = false := by simp; omega
  rw [hX, hY] at h1
  rw [hY] at h0
  have HY0 : Hid (0 < Y) := Nat.pos_of_ne_zero h0
  have Hu : Hid (upq X Y = X / Y) := by show _ = _; rw [upq, if_pos h1, Nat.add_zero]
  have H1 := Lib.hid h1
  clear hX hY h0 h1
  go_enter Tryd.func3, Tryd.ntmps3
  go_wp2_with fail
  refine (Hal.out).mono ?_
  rintro e w1 ⟨rfl, hb⟩
  replace hS := hS.trans (hb.mono hS.size)
  replace hT := hT.below hb
  replace hA := hA.below hb
  replace hB := hB.below hb
  clear hb
  go_wp2_with fail
  refine (to_any _ _ _ _ _ hA (by omega)).mono ?_
  rintro e w2 ⟨A_dx, m_dx, c_dx, dx, rfl, hm_dx, h_dx, hbare, hv, hb⟩
  have H_dx : Hid (D.val dx = X) := by rw [hv, HX.out]; rfl
  have B_dx := Lib.hid hbare
  replace hS := hS.trans (hb.mono hS.size)
  replace hT := hT.below hb
  replace hA := hA.below hb
  replace hB := hB.below hb
  clear hb hv hbare
  go_wp2_with fail
  refine (to_any _ _ _ _ _ hB (by omega)).mono ?_
  rintro e w3 ⟨A_dy, m_dy, c_dy, dy, rfl, hm_dy, h_dy, hbare, hv, hb⟩
  have H_dy : Hid (D.val dy = Y) := by rw [hv, HY.out]; rfl
  have B_dy := Lib.hid hbare
  replace hS := hS.trans (hb.mono hS.size)
  replace hT := hT.below hb
  replace hA := hA.below hb
  replace hB := hB.below hb
  replace h_dx := h_dx.below hb
  clear hb hv hbare
  go_wp2_with fail
  refine (div_any _ _ _ _ _ _ _ _ _ hA hB (by omega) (by omega) (by rw [HY.out]; have := HY0.out; omega) hT).mono ?_
  rintro e w4 ⟨A_qq, m_qq, c_qq, qq, A_rr, m_rr, c_rr, rr, rfl, hm_qq, hm_rr, h_qq, h_rr, hbq, hbr, hvq, hvr, hb⟩
  have H_qq : Hid (val qq = X / Y) := by rw [hvq, HX.out, HY.out]; rfl
  have H_rr : Hid (val rr = X % Y) := by rw [hvr, HX.out, HY.out]; rfl
  have B_qq := Lib.hid hbq
  have B_rr := Lib.hid hbr
  replace hS := hS.trans (hb.mono hS.size)
  replace hT := hT.below hb
  replace hA := hA.below hb
  replace hB := hB.below hb
  replace h_dx := h_dx.below hb
  replace h_dy := h_dy.below hb
  clear hb hvq hvr hbq hbr
  go_wp2_with fail
  refine (up_any _ _ _ _ _ _ _ _ _ hA hB (by omega) (by omega) (by rw [HY.out]; have := HY0.out; omega) hT).mono ?_
  rintro e w5 ⟨A_uu, m_uu, c_uu, uu, rfl, hm_uu, h_uu, hbare, hv, hb⟩
  have H_uu : Hid (val uu = upq X Y) := by rw [hv, HX.out, HY.out]; rfl
  have B_uu := Lib.hid hbare
  replace hS := hS.trans (hb.mono hS.size)
  replace hT := hT.below hb
  replace hA := hA.below hb
  replace hB := hB.below hb
  replace h_dx := h_dx.below hb
  replace h_dy := h_dy.below hb
  replace h_qq := h_qq.below hb
  replace h_rr := h_rr.below hb
  clear hb hv hbare
  have hz : m_dy ≠ 0 := fun h => by
    have h2 := (D.bare_zero h_dy B_dy.out).1 h
    rw [H_dy.out] at h2
    have := HY0.out
    omega
  have b4 : ((m_dy : Int) == 0) = false := beq_eq_false_iff_ne.2 (by omega)
  clear hz
  go_wp2_with fail
  refine (rdiv_any _ _ _ _ _ _ _ _ _ h_dx h_dy B_dx.out B_dy.out (by omega) (by omega) (by rw [H_dy.out]; have := HY0.out; omega)).mono ?_
  rintro e w6 ⟨A_dp, m_dp, c_dp, dp, A_ds, m_ds, c_ds, ds, rfl, hm_dp, hm_ds, h_dp, h_ds, hbq, hbr, hvq, hvr, hb⟩
  have H_dp : Hid (D.val dp = X / Y) := by rw [hvq, H_dx.out, H_dy.out]; rfl
  have H_ds : Hid (D.val ds = X % Y) := by rw [hvr, H_dx.out, H_dy.out]; rfl
  have B_dp := Lib.hid hbq
  have B_ds := Lib.hid hbr
  replace hS := hS.trans (hb.mono hS.size)
  replace hT := hT.below hb
  replace hA := hA.below hb
  replace hB := hB.below hb
  replace h_dx := h_dx.below hb
  replace h_dy := h_dy.below hb
  replace h_qq := h_qq.below hb
  replace h_rr := h_rr.below hb
  replace h_uu := h_uu.below hb
  clear hb hvq hvr hbq hbr
  have hz := (D.bare_zero h_ds B_ds.out).2 (by rw [H_ds.out]; exact H1.out)
  subst hz
  go_wp2_with fail
  refine (same_any _ _ _ _ _ _ _ _ _ h_qq B_qq.out h_dp B_dp.out (by rw [H_qq.out, H_dp.out]) (by omega)).mono ?_
  rintro e w7 ⟨rfl, hb⟩
  replace hS := hS.trans (hb.mono hS.size)
  replace hT := hT.below hb
  replace hA := hA.below hb
  replace hB := hB.below hb
  replace h_dx := h_dx.below hb
  replace h_dy := h_dy.below hb
  replace h_qq := h_qq.below hb
  replace h_rr := h_rr.below hb
  replace h_uu := h_uu.below hb
  replace h_dp := h_dp.below hb
  replace h_ds := h_ds.below hb
  clear hb
  go_wp2_with fail
  refine (same_any _ _ _ _ _ _ _ _ _ h_rr B_rr.out h_ds B_ds.out (by rw [H_rr.out, H_ds.out]) (by omega)).mono ?_
  rintro e w8 ⟨rfl, hb⟩
  replace hS := hS.trans (hb.mono hS.size)
  replace hT := hT.below hb
  replace hA := hA.below hb
  replace hB := hB.below hb
  replace h_dx := h_dx.below hb
  replace h_dy := h_dy.below hb
  replace h_qq := h_qq.below hb
  replace h_rr := h_rr.below hb
  replace h_uu := h_uu.below hb
  replace h_dp := h_dp.below hb
  replace h_ds := h_ds.below hb
  clear hb
  go_wp2_with fail
  refine (same_any _ _ _ _ _ _ _ _ _ h_uu B_uu.out h_dp B_dp.out (by rw [H_uu.out, H_dp.out]; exact Hu.out) (by omega)).mono ?_
  rintro e w9 ⟨rfl, hb⟩
  replace hS := hS.trans (hb.mono hS.size)
  replace hT := hT.below hb
  replace hA := hA.below hb
  replace hB := hB.below hb
  replace h_dx := h_dx.below hb
  replace h_dy := h_dy.below hb
  replace h_qq := h_qq.below hb
  replace h_rr := h_rr.below hb
  replace h_uu := h_uu.below hb
  replace h_dp := h_dp.below hb
  replace h_ds := h_ds.below hb
  clear hb
  clear h_qq h_rr h_uu h_dp h_ds
  go_wp2_with fail
  refine (small_nought _ _ _ _).mono ?_
  rintro e w' ⟨rfl, rfl⟩
  go_wp2
  go_ret
  exact ⟨rfl, hS⟩

set_option maxHeartbeats 8000000 in
set_option maxRecDepth 100000 in
theorem qdivs_even (A : Option Addr) (n c : Nat) (xs : List Nat) (B : Option Addr) (m d : Nat) (ys : List Nat) (N : Nat) (w : World) (hT : Tab w)
    (hA : Lim w A n c xs) (hB : Lim w B m d ys) (hn : n ≤ 30) (hm : m ≤ 30) (hN : N < 18446744073709551616) (hN0 : 0 < N) (h0 : val ys ≠ 0) (h1 : val xs % val ys = 0) :
    Calls Tryd.prog 3 #[.slice A n c, .slice B m d, .int .u64 (N : Int)] w fun e w' => e = .returned (.bool true) ∧ Below w.heap.size w w' := by
  have Hal := Lib.hid (qalive_any w hT)
  have hS : Below w.heap.size w w := Below.refl _ _
  obtain ⟨X, hX⟩ : ∃ X, val xs = X := ⟨_, rfl⟩
  obtain ⟨Y, hY⟩ : ∃ Y, val ys = Y := ⟨_, rfl⟩
  have HX := Lib.hid hX
  have HY := Lib.hid hY
  have b1 : decide ((30 : Int) < (n : Int)) = false := by simp; omega
  have b2 : decide ((30 : Int) < (m : Int)) = false := by simp; omega
  rw [hX, hY] at h1
  rw [hY] at h0
  have HY0 : Hid (0 < Y) := Nat.pos_of_ne_zero h0
  have Hu : Hid (upq X Y = X / Y) := by show _ = _; rw [upq, if_pos h1, Nat.add_zero]
  have H1 := Lib.hid h1
  have b3 : ((N : Int) == 0) = false := beq_eq_false_iff_ne.2 (by omega)
  obtain ⟨R, hR⟩ : ∃ R, X % N = R := ⟨_, rfl⟩
  have hRb : R < 18446744073709551616 := by rw [← hR]; exact Nat.lt_trans (Nat.mod_lt _ hN0) hN
  have HR := Lib.hid hR
  have HR2 : Hid (val xs % N = R) := by rw [HX.out]; exact hR
  clear hR
  clear hX hY h0 h1
  go_enter Tryd.func3, Tryd.ntmps3
  go_wp2_with fail
  refine (Hal.out).mono ?_
  rintro e w1 ⟨rfl, hb⟩
  replace hS := hS.trans (hb.mono hS.size)
  replace hT := hT.below hb
  replace hA := hA.below hb
  replace hB := hB.below hb
  clear hb
  go_wp2_with fail
  refine (to_any _ _ _ _ _ hA (by omega)).mono ?_
  rintro e w2 ⟨A_dx, m_dx, c_dx, dx, rfl, hm_dx, h_dx, hbare, hv, hb⟩
  have H_dx : Hid (D.val dx = X) := by rw [hv, HX.out]; rfl
  have B_dx := Lib.hid hbare
  replace hS := hS.trans (hb.mono hS.size)
  replace hT := hT.below hb
  replace hA := hA.below hb
  replace hB := hB.below hb
  clear hb hv hbare
  go_wp2_with fail
  refine (to_any _ _ _ _ _ hB (by omega)).mono ?_
  rintro e w3 ⟨A_dy, m_dy, c_dy, dy, rfl, hm_dy, h_dy, hbare, hv, hb⟩
  have H_dy : Hid (D.val dy = Y) := by rw [hv, HY.out]; rfl
  have B_dy := Lib.hid hbare
  replace hS := hS.trans (hb.mono hS.size)
  replace hT := hT.below hb
  replace hA := hA.below hb
  replace hB := hB.below hb
  replace h_dx := h_dx.below hb
  clear hb hv hbare
  go_wp2_with fail
  refine (div_any _ _ _ _ _ _ _ _ _ hA hB (by omega) (by omega) (by rw [HY.out]; have := HY0.out; omega) hT).mono ?_
  rintro e w4 ⟨A_qq, m_qq, c_qq, qq, A_rr, m_rr, c_rr, rr, rfl, hm_qq, hm_rr, h_qq, h_rr, hbq, hbr, hvq, hvr, hb⟩
  have H_qq : Hid (val qq = X / Y) := by rw [hvq, HX.out, HY.out]; rfl
  have H_rr : Hid (val rr = X % Y) := by rw [hvr, HX.out, HY.out]; rfl
  have B_qq := Lib.hid hbq
  have B_rr := Lib.hid hbr
  replace hS := hS.trans (hb.mono hS.size)
  replace hT := hT.below hb
  replace hA := hA.below hb
  replace hB := hB.below hb
  replace h_dx := h_dx.below hb
  replace h_dy := h_dy.below hb
  clear hb hvq hvr hbq hbr
  go_wp2_with fail
  refine (up_any _ _ _ _ _ _ _ _ _ hA hB (by omega) (by omega) (by rw [HY.out]; have := HY0.out; omega) hT).mono ?_
  rintro e w5 ⟨A_uu, m_uu, c_uu, uu, rfl, hm_uu, h_uu, hbare, hv, hb⟩
  have H_uu : Hid (val uu = upq X Y) := by rw [hv, HX.out, HY.out]; rfl
  have B_uu := Lib.hid hbare
  replace hS := hS.trans (hb.mono hS.size)
  replace hT := hT.below hb
  replace hA := hA.below hb
  replace hB := hB.below hb
  replace h_dx := h_dx.below hb
  replace h_dy := h_dy.below hb
  replace h_qq := h_qq.below hb
  replace h_rr := h_rr.below hb
  clear hb hv hbare
  have hz : m_dy ≠ 0 := fun h => by
    have h2 := (D.bare_zero h_dy B_dy.out).1 h
    rw [H_dy.out] at h2
    have := HY0.out
    omega
  have b4 : ((m_dy : Int) == 0) = false := beq_eq_false_iff_ne.2 (by omega)
  clear hz
  go_wp2_with fail
  refine (rdiv_any _ _ _ _ _ _ _ _ _ h_dx h_dy B_dx.out B_dy.out (by omega) (by omega) (by rw [H_dy.out]; have := HY0.out; omega)).mono ?_
  rintro e w6 ⟨A_dp, m_dp, c_dp, dp, A_ds, m_ds, c_ds, ds, rfl, hm_dp, hm_ds, h_dp, h_ds, hbq, hbr, hvq, hvr, hb⟩
  have H_dp : Hid (D.val dp = X / Y) := by rw [hvq, H_dx.out, H_dy.out]; rfl
  have H_ds : Hid (D.val ds = X % Y) := by rw [hvr, H_dx.out, H_dy.out]; rfl
  have B_dp := Lib.hid hbq
  have B_ds := Lib.hid hbr
  replace hS := hS.trans (hb.mono hS.size)
  replace hT := hT.below hb
  replace hA := hA.below hb
  replace hB := hB.below hb
  replace h_dx := h_dx.below hb
  replace h_dy := h_dy.below hb
  replace h_qq := h_qq.below hb
  replace h_rr := h_rr.below hb
  replace h_uu := h_uu.below hb
  clear hb hvq hvr hbq hbr
  have hz := (D.bare_zero h_ds B_ds.out).2 (by rw [H_ds.out]; exact H1.out)
  subst hz
  go_wp2_with fail
  refine (same_any _ _ _ _ _ _ _ _ _ h_qq B_qq.out h_dp B_dp.out (by rw [H_qq.out, H_dp.out]) (by omega)).mono ?_
  rintro e w7 ⟨rfl, hb⟩
  replace hS := hS.trans (hb.mono hS.size)
  replace hT := hT.below hb
  replace hA := hA.below hb
  replace hB := hB.below hb
  replace h_dx := h_dx.below hb
  replace h_dy := h_dy.below hb
  replace h_qq := h_qq.below hb
  replace h_rr := h_rr.below hb
  replace h_uu := h_uu.below hb
  replace h_dp := h_dp.below hb
  replace h_ds := h_ds.below hb
  clear hb
  go_wp2_with fail
  refine (same_any _ _ _ _ _ _ _ _ _ h_rr B_rr.out h_ds B_ds.out (by rw [H_rr.out, H_ds.out]) (by omega)).mono ?_
  rintro e w8 ⟨rfl, hb⟩
  replace hS := hS.trans (hb.mono hS.size)
  replace hT := hT.below hb
  replace hA := hA.below hb
  replace hB := hB.below hb
  replace h_dx := h_dx.below hb
  replace h_dy := h_dy.below hb
  replace h_qq := h_qq.below hb
  replace h_rr := h_rr.below hb
  replace h_uu := h_uu.below hb
  replace h_dp := h_dp.below hb
  replace h_ds := h_ds.below hb
  clear hb
  go_wp2_with fail
  refine (same_any _ _ _ _ _ _ _ _ _ h_uu B_uu.out h_dp B_dp.out (by rw [H_uu.out, H_dp.out]; exact Hu.out) (by omega)).mono ?_
  rintro e w9 ⟨rfl, hb⟩
  replace hS := hS.trans (hb.mono hS.size)
  replace hT := hT.below hb
  replace hA := hA.below hb
  replace hB := hB.below hb
  replace h_dx := h_dx.below hb
  replace h_dy := h_dy.below hb
  replace h_qq := h_qq.below hb
  replace h_rr := h_rr.below hb
  replace h_uu := h_uu.below hb
  replace h_dp := h_dp.below hb
  replace h_ds := h_ds.below hb
  clear hb
  clear h_qq h_rr h_uu h_dp h_ds
  go_wp2_with fail
  refine (small_any _ _ _ _ N _ hA (by omega) hN0 hN R HR2).mono ?_
  rintro e w10 ⟨A_kk, m_kk, c_kk, kk, rfl, hm_kk, h_kk, hbare, hv, hb⟩
  have H_kk : Hid (val kk = X / N) := by rw [hv, HX.out]; rfl
  have B_kk := Lib.hid hbare
  replace hS := hS.trans (hb.mono hS.size)
  replace hT := hT.below hb
  replace hA := hA.below hb
  replace hB := hB.below hb
  replace h_dx := h_dx.below hb
  replace h_dy := h_dy.below hb
  clear hb hv hbare
  go_wp2_with fail
  refine (num_any N hN _).mono ?_
  rintro e w11 ⟨A_dn, m_dn, c_dn, dn, rfl, hm_dn, h_dn, hbare, hv, hb⟩
  have H_dn : Hid (D.val dn = N) := by rw [hv]; rfl
  have B_dn := Lib.hid hbare
  replace hS := hS.trans (hb.mono hS.size)
  replace hT := hT.below hb
  replace hA := hA.below hb
  replace hB := hB.below hb
  replace h_dx := h_dx.below hb
  replace h_dy := h_dy.below hb
  replace h_kk := h_kk.below hb
  clear hb hv hbare
  go_wp2_with fail
  refine (rdiv_any _ _ _ _ _ _ _ _ _ h_dx h_dn B_dx.out B_dn.out (by omega) (by omega) (by rw [H_dn.out]; omega)).mono ?_
  rintro e w12 ⟨A_ep, m_ep, c_ep, ep, A_es, m_es, c_es, es, rfl, hm_ep, hm_es, h_ep, h_es, hbq, hbr, hvq, hvr, hb⟩
  have H_ep : Hid (D.val ep = X / N) := by rw [hvq, H_dx.out, H_dn.out]; rfl
  have H_es : Hid (D.val es = X % N) := by rw [hvr, H_dx.out, H_dn.out]; rfl
  have B_ep := Lib.hid hbq
  have B_es := Lib.hid hbr
  replace hS := hS.trans (hb.mono hS.size)
  replace hT := hT.below hb
  replace hA := hA.below hb
  replace hB := hB.below hb
  replace h_dx := h_dx.below hb
  replace h_dy := h_dy.below hb
  replace h_kk := h_kk.below hb
  replace h_dn := h_dn.below hb
  clear hb hvq hvr hbq hbr
  go_wp2_with fail
  refine (same_any _ _ _ _ _ _ _ _ _ h_kk B_kk.out h_ep B_ep.out (by rw [H_kk.out, H_ep.out]) (by omega)).mono ?_
  rintro e w13 ⟨rfl, hb⟩
  replace hS := hS.trans (hb.mono hS.size)
  replace hT := hT.below hb
  replace hA := hA.below hb
  replace hB := hB.below hb
  replace h_dx := h_dx.below hb
  replace h_dy := h_dy.below hb
  replace h_kk := h_kk.below hb
  replace h_dn := h_dn.below hb
  replace h_ep := h_ep.below hb
  replace h_es := h_es.below hb
  clear hb
  go_wp2_with fail
  refine (of_any R hRb _).mono ?_
  rintro e w14 ⟨A_oo, m_oo, c_oo, oo, rfl, hm_oo, h_oo, hbare, hv, hb⟩
  have H_oo : Hid (val oo = R) := by rw [hv]; rfl
  have B_oo := Lib.hid hbare
  replace hS := hS.trans (hb.mono hS.size)
  replace hT := hT.below hb
  replace hA := hA.below hb
  replace hB := hB.below hb
  replace h_dx := h_dx.below hb
  replace h_dy := h_dy.below hb
  replace h_kk := h_kk.below hb
  replace h_dn := h_dn.below hb
  replace h_ep := h_ep.below hb
  replace h_es := h_es.below hb
  clear hb hv hbare
  go_wp2_with fail
  refine (same_any _ _ _ _ _ _ _ _ _ h_oo B_oo.out h_es B_es.out (by rw [H_oo.out, H_es.out]; exact HR.out.symm) (by omega)).mono ?_
  rintro e w15 ⟨rfl, hb⟩
  replace hS := hS.trans (hb.mono hS.size)
  replace hT := hT.below hb
  replace hA := hA.below hb
  replace hB := hB.below hb
  replace h_dx := h_dx.below hb
  replace h_dy := h_dy.below hb
  replace h_kk := h_kk.below hb
  replace h_dn := h_dn.below hb
  replace h_ep := h_ep.below hb
  replace h_es := h_es.below hb
  replace h_oo := h_oo.below hb
  clear hb
  go_wp2
  go_ret
  exact ⟨rfl, hS⟩

set_option maxHeartbeats 8000000 in
set_option maxRecDepth 100000 in
theorem qdivs_odd_no (A : Option Addr) (n c : Nat) (xs : List Nat) (B : Option Addr) (m d : Nat) (ys : List Nat) (w : World) (hT : Tab w)
    (hA : Lim w A n c xs) (hB : Lim w B m d ys) (hn : n ≤ 30) (hm : m ≤ 30) (h0 : val ys ≠ 0) (h1 : ¬ val xs % val ys = 0) :
    Calls Tryd.prog 3 #[.slice A n c, .slice B m d, .int .u64 0] w fun e w' => e = .returned (.bool true) ∧ Below w.heap.size w w' := by
  have Hal := Lib.hid (qalive_any w hT)
  have hS : Below w.heap.size w w := Below.refl _ _
  obtain ⟨X, hX⟩ : ∃ X, val xs = X := ⟨_, rfl⟩
  obtain ⟨Y, hY⟩ : ∃ Y, val ys = Y := ⟨_, rfl⟩
  have HX := Lib.hid hX
  have HY := Lib.hid hY
  have b1 : decide ((30 : Int) < (n : Int)) = false := by simp; omega
  have b2 : decide ((30 : Int) < (m : Int)) = false := by simp; omega
  rw [hX, hY] at h1
  rw [hY] at h0
  have HY0 : Hid (0 < Y) := Nat.pos_of_ne_zero h0
  have Hu : Hid (upq X Y = X / Y + 1) := by show _ = _; rw [upq, if_neg h1]
  have H1 := Lib.hid h1
  clear hX hY h0 h1
  go_enter Tryd.func3, Tryd.ntmps3
  go_wp2_with fail
  refine (Hal.out).mono ?_
  rintro e w1 ⟨rfl, hb⟩
  replace hS := hS.trans (hb.mono hS.size)
  replace hT := hT.below hb
  replace hA := hA.below hb
  replace hB := hB.below hb
  clear hb
  go_wp2_with fail
  refine (to_any _ _ _ _ _ hA (by omega)).mono ?_
  rintro e w2 ⟨A_dx, m_dx, c_dx, dx, rfl, hm_dx, h_dx, hbare, hv, hb⟩
  have H_dx : Hid (D.val dx = X) := by rw [hv, HX.out]; rfl
  have B_dx := Lib.hid hbare
  replace hS := hS.trans (hb.mono hS.size)
  replace hT := hT.below hb
  replace hA := hA.below hb
  replace hB := hB.below hb
  clear hb hv hbare
  go_wp2_with fail
  refine (to_any _ _ _ _ _ hB (by omega)).mono ?_
  rintro e w3 ⟨A_dy, m_dy, c_dy, dy, rfl, hm_dy, h_dy, hbare, hv, hb⟩
  have H_dy : Hid (D.val dy = Y) := by rw [hv, HY.out]; rfl
  have B_dy := Lib.hid hbare
  replace hS := hS.trans (hb.mono hS.size)
  replace hT := hT.below hb
  replace hA := hA.below hb
  replace hB := hB.below hb
  replace h_dx := h_dx.below hb
  clear hb hv hbare
  go_wp2_with fail
  refine (div_any _ _ _ _ _ _ _ _ _ hA hB (by omega) (by omega) (by rw [HY.out]; have := HY0.out; omega) hT).mono ?_
  rintro e w4 ⟨A_qq, m_qq, c_qq, qq, A_rr, m_rr, c_rr, rr, rfl, hm_qq, hm_rr, h_qq, h_rr, hbq, hbr, hvq, hvr, hb⟩
  have H_qq : Hid (val qq = X / Y) := by rw [hvq, HX.out, HY.out]; rfl
  have H_rr : Hid (val rr = X % Y) := by rw [hvr, HX.out, HY.out]; rfl
  have B_qq := Lib.hid hbq
  have B_rr := Lib.hid hbr
  replace hS := hS.trans (hb.mono hS.size)
  replace hT := hT.below hb
  replace hA := hA.below hb
  replace hB := hB.below hb
  replace h_dx := h_dx.below hb
  replace h_dy := h_dy.below hb
  clear hb hvq hvr hbq hbr
  go_wp2_with fail
  refine (up_any _ _ _ _ _ _ _ _ _ hA hB (by omega) (by omega) (by rw [HY.out]; have := HY0.out; omega) hT).mono ?_
  rintro e w5 ⟨A_uu, m_uu, c_uu, uu, rfl, hm_uu, h_uu, hbare, hv, hb⟩
  have H_uu : Hid (val uu = upq X Y) := by rw [hv, HX.out, HY.out]; rfl
  have B_uu := Lib.hid hbare
  replace hS := hS.trans (hb.mono hS.size)
  replace hT := hT.below hb
  replace hA := hA.below hb
  replace hB := hB.below hb
  replace h_dx := h_dx.below hb
  replace h_dy := h_dy.below hb
  replace h_qq := h_qq.below hb
  replace h_rr := h_rr.below hb
  clear hb hv hbare
  have hz : m_dy ≠ 0 := fun h => by
    have h2 := (D.bare_zero h_dy B_dy.out).1 h
    rw [H_dy.out] at h2
    have := HY0.out
    omega
  have b4 : ((m_dy : Int) == 0) = false := beq_eq_false_iff_ne.2 (by omega)
  clear hz
  go_wp2_with fail
  refine (rdiv_any _ _ _ _ _ _ _ _ _ h_dx h_dy B_dx.out B_dy.out (by omega) (by omega) (by rw [H_dy.out]; have := HY0.out; omega)).mono ?_
  rintro e w6 ⟨A_dp, m_dp, c_dp, dp, A_ds, m_ds, c_ds, ds, rfl, hm_dp, hm_ds, h_dp, h_ds, hbq, hbr, hvq, hvr, hb⟩
  have H_dp : Hid (D.val dp = X / Y) := by rw [hvq, H_dx.out, H_dy.out]; rfl
  have H_ds : Hid (D.val ds = X % Y) := by rw [hvr, H_dx.out, H_dy.out]; rfl
  have B_dp := Lib.hid hbq
  have B_ds := Lib.hid hbr
  replace hS := hS.trans (hb.mono hS.size)
  replace hT := hT.below hb
  replace hA := hA.below hb
  replace hB := hB.below hb
  replace h_dx := h_dx.below hb
  replace h_dy := h_dy.below hb
  replace h_qq := h_qq.below hb
  replace h_rr := h_rr.below hb
  replace h_uu := h_uu.below hb
  clear hb hvq hvr hbq hbr
  have hz : m_ds ≠ 0 := fun h => by
    have h2 := (D.bare_zero h_ds B_ds.out).1 h
    rw [H_ds.out] at h2
    exact H1.out h2
  have b5 : decide (0 < m_ds) = true := by simp; omega
  have b6 : decide ((0 : Int) < (m_ds : Int)) = true := by simp; omega
  clear hz
  go_wp2_with fail
  refine (num_one _).mono ?_
  rintro e w7 ⟨A_d1, m_d1, c_d1, d1, rfl, hm_d1, h_d1, hbare, hv, hb⟩
  have H_d1 : Hid (D.val d1 = 1) := by rw [hv]; rfl
  have B_d1 := Lib.hid hbare
  replace hS := hS.trans (hb.mono hS.size)
  replace hT := hT.below hb
  replace hA := hA.below hb
  replace hB := hB.below hb
  replace h_dx := h_dx.below hb
  replace h_dy := h_dy.below hb
  replace h_qq := h_qq.below hb
  replace h_rr := h_rr.below hb
  replace h_uu := h_uu.below hb
  replace h_dp := h_dp.below hb
  replace h_ds := h_ds.below hb
  clear hb hv hbare
  go_wp2_with fail
  refine (radd_any _ _ _ _ _ _ _ _ _ h_dp h_d1 B_dp.out B_d1.out (by omega) (by omega)).mono ?_
  rintro e w8 ⟨A_du, m_du, c_du, du, rfl, hm_du, h_du, hbare, hv, hb⟩
  have H_du : Hid (D.val du = X / Y + 1) := by rw [hv, H_dp.out, H_d1.out]; rfl
  have B_du := Lib.hid hbare
  replace hS := hS.trans (hb.mono hS.size)
  replace hT := hT.below hb
  replace hA := hA.below hb
  replace hB := hB.below hb
  replace h_dx := h_dx.below hb
  replace h_dy := h_dy.below hb
  replace h_qq := h_qq.below hb
  replace h_rr := h_rr.below hb
  replace h_uu := h_uu.below hb
  replace h_dp := h_dp.below hb
  replace h_ds := h_ds.below hb
  replace h_d1 := h_d1.below hb
  clear hb hv hbare
  go_wp2_with fail
  refine (same_any _ _ _ _ _ _ _ _ _ h_qq B_qq.out h_dp B_dp.out (by rw [H_qq.out, H_dp.out]) (by omega)).mono ?_
  rintro e w9 ⟨rfl, hb⟩
  replace hS := hS.trans (hb.mono hS.size)
  replace hT := hT.below hb
  replace hA := hA.below hb
  replace hB := hB.below hb
  replace h_dx := h_dx.below hb
  replace h_dy := h_dy.below hb
  replace h_qq := h_qq.below hb
  replace h_rr := h_rr.below hb
  replace h_uu := h_uu.below hb
  replace h_dp := h_dp.below hb
  replace h_ds := h_ds.below hb
  replace h_d1 := h_d1.below hb
  replace h_du := h_du.below hb
  clear hb
  go_wp2_with fail
  refine (same_any _ _ _ _ _ _ _ _ _ h_rr B_rr.out h_ds B_ds.out (by rw [H_rr.out, H_ds.out]) (by omega)).mono ?_
  rintro e w10 ⟨rfl, hb⟩
  replace hS := hS.trans (hb.mono hS.size)
  replace hT := hT.below hb
  replace hA := hA.below hb
  replace hB := hB.below hb
  replace h_dx := h_dx.below hb
  replace h_dy := h_dy.below hb
  replace h_qq := h_qq.below hb
  replace h_rr := h_rr.below hb
  replace h_uu := h_uu.below hb
  replace h_dp := h_dp.below hb
  replace h_ds := h_ds.below hb
  replace h_d1 := h_d1.below hb
  replace h_du := h_du.below hb
  clear hb
  go_wp2_with fail
  refine (same_any _ _ _ _ _ _ _ _ _ h_uu B_uu.out h_du B_du.out (by rw [H_uu.out, H_du.out]; exact Hu.out) (by omega)).mono ?_
  rintro e w11 ⟨rfl, hb⟩
  replace hS := hS.trans (hb.mono hS.size)
  replace hT := hT.below hb
  replace hA := hA.below hb
  replace hB := hB.below hb
  replace h_dx := h_dx.below hb
  replace h_dy := h_dy.below hb
  replace h_qq := h_qq.below hb
  replace h_rr := h_rr.below hb
  replace h_uu := h_uu.below hb
  replace h_dp := h_dp.below hb
  replace h_ds := h_ds.below hb
  replace h_d1 := h_d1.below hb
  replace h_du := h_du.below hb
  clear hb
  clear h_qq h_rr h_uu h_dp h_ds h_d1 h_du
  go_wp2_with fail
  refine (small_nought _ _ _ _).mono ?_
  rintro e w' ⟨rfl, rfl⟩
  go_wp2
  go_ret
  exact ⟨rfl, hS⟩

set_option maxHeartbeats 8000000 in
set_option maxRecDepth 100000 in
theorem qdivs_odd (A : Option Addr) (n c : Nat) (xs : List Nat) (B : Option Addr) (m d : Nat) (ys : List Nat) (N : Nat) (w : World) (hT : Tab w)
    (hA : Lim w A n c xs) (hB : Lim w B m d ys) (hn : n ≤ 30) (hm : m ≤ 30) (hN : N < 18446744073709551616) (hN0 : 0 < N) (h0 : val ys ≠ 0) (h1 : ¬ val xs % val ys = 0) :
    Calls Tryd.prog 3 #[.slice A n c, .slice B m d, .int .u64 (N : Int)] w fun e w' => e = .returned (.bool true) ∧ Below w.heap.size w w' := by
  have Hal := Lib.hid (qalive_any w hT)
  have hS : Below w.heap.size w w := Below.refl _ _
  obtain ⟨X, hX⟩ : ∃ X, val xs = X := ⟨_, rfl⟩
  obtain ⟨Y, hY⟩ : ∃ Y, val ys = Y := ⟨_, rfl⟩
  have HX := Lib.hid hX
  have HY := Lib.hid hY
  have b1 : decide ((30 : Int) < (n : Int)) = false := by simp; omega
  have b2 : decide ((30 : Int) < (m : Int)) = false := by simp; omega
  rw [hX, hY] at h1
  rw [hY] at h0
  have HY0 : Hid (0 < Y) := Nat.pos_of_ne_zero h0
  have Hu : Hid (upq X Y = X / Y + 1) := by show _ = _; rw [upq, if_neg h1]
  have H1 := Lib.hid h1
  have b3 : ((N : Int) == 0) = false := beq_eq_false_iff_ne.2 (by omega)
  obtain ⟨R, hR⟩ : ∃ R, X % N = R := ⟨_, rfl⟩
  have hRb : R < 18446744073709551616 := by rw [← hR]; exact Nat.lt_trans (Nat.mod_lt _ hN0) hN
  have HR := Lib.hid hR
  have HR2 : Hid (val xs % N = R) := by rw [HX.out]; exact hR
  clear hR
  clear hX hY h0 h1
  go_enter Tryd.func3, Tryd.ntmps3
  go_wp2_with fail
  refine (Hal.out).mono ?_
  rintro e w1 ⟨rfl, hb⟩
  replace hS := hS.trans (hb.mono hS.size)
  replace hT := hT.below hb
  replace hA := hA.below hb
  replace hB := hB.below hb
  clear hb
  go_wp2_with fail
  refine (to_any _ _ _ _ _ hA (by omega)).mono ?_
  rintro e w2 ⟨A_dx, m_dx, c_dx, dx, rfl, hm_dx, h_dx, hbare, hv, hb⟩
  have H_dx : Hid (D.val dx = X) := by rw [hv, HX.out]; rfl
  have B_dx := Lib.hid hbare
  replace hS := hS.trans (hb.mono hS.size)
  replace hT := hT.below hb
  replace hA := hA.below hb
  replace hB := hB.below hb
  clear hb hv hbare
  go_wp2_with fail
  refine (to_any _ _ _ _ _ hB (by omega)).mono ?_
  rintro e w3 ⟨A_dy, m_dy, c_dy, dy, rfl, hm_dy, h_dy, hbare, hv, hb⟩
  have H_dy : Hid (D.val dy = Y) := by rw [hv, HY.out]; rfl
  have B_dy := Lib.hid hbare
  replace hS := hS.trans (hb.mono hS.size)
  replace hT := hT.below hb
  replace hA := hA.below hb
  replace hB := hB.below hb
  replace h_dx := h_dx.below hb
  clear hb hv hbare
  go_wp2_with fail
  refine (div_any _ _ _ _ _ _ _ _ _ hA hB (by omega) (by omega) (by rw [HY.out]; have := HY0.out; omega) hT).mono ?_
  rintro e w4 ⟨A_qq, m_qq, c_qq, qq, A_rr, m_rr, c_rr, rr, rfl, hm_qq, hm_rr, h_qq, h_rr, hbq, hbr, hvq, hvr, hb⟩
  have H_qq : Hid (val qq = X / Y) := by rw [hvq, HX.out, HY.out]; rfl
  have H_rr : Hid (val rr = X % Y) := by rw [hvr, HX.out, HY.out]; rfl
  have B_qq := Lib.hid hbq
  have B_rr := Lib.hid hbr
  replace hS := hS.trans (hb.mono hS.size)
  replace hT := hT.below hb
  replace hA := hA.below hb
  replace hB := hB.below hb
  replace h_dx := h_dx.below hb
  replace h_dy := h_dy.below hb
  clear hb hvq hvr hbq hbr
  go_wp2_with fail
  refine (up_any _ _ _ _ _ _ _ _ _ hA hB (by omega) (by omega) (by rw [HY.out]; have := HY0.out; omega) hT).mono ?_
  rintro e w5 ⟨A_uu, m_uu, c_uu, uu, rfl, hm_uu, h_uu, hbare, hv, hb⟩
  have H_uu : Hid (val uu = upq X Y) := by rw [hv, HX.out, HY.out]; rfl
  have B_uu := Lib.hid hbare
  replace hS := hS.trans (hb.mono hS.size)
  replace hT := hT.below hb
  replace hA := hA.below hb
  replace hB := hB.below hb
  replace h_dx := h_dx.below hb
  replace h_dy := h_dy.below hb
  replace h_qq := h_qq.below hb
  replace h_rr := h_rr.below hb
  clear hb hv hbare
  have hz : m_dy ≠ 0 := fun h => by
    have h2 := (D.bare_zero h_dy B_dy.out).1 h
    rw [H_dy.out] at h2
    have := HY0.out
    omega
  have b4 : ((m_dy : Int) == 0) = false := beq_eq_false_iff_ne.2 (by omega)
  clear hz
  go_wp2_with fail
  refine (rdiv_any _ _ _ _ _ _ _ _ _ h_dx h_dy B_dx.out B_dy.out (by omega) (by omega) (by rw [H_dy.out]; have := HY0.out; omega)).mono ?_
  rintro e w6 ⟨A_dp, m_dp, c_dp, dp, A_ds, m_ds, c_ds, ds, rfl, hm_dp, hm_ds, h_dp, h_ds, hbq, hbr, hvq, hvr, hb⟩
  have H_dp : Hid (D.val dp = X / Y) := by rw [hvq, H_dx.out, H_dy.out]; rfl
  have H_ds : Hid (D.val ds = X % Y) := by rw [hvr, H_dx.out, H_dy.out]; rfl
  have B_dp := Lib.hid hbq
  have B_ds := Lib.hid hbr
  replace hS := hS.trans (hb.mono hS.size)
  replace hT := hT.below hb
  replace hA := hA.below hb
  replace hB := hB.below hb
  replace h_dx := h_dx.below hb
  replace h_dy := h_dy.below hb
  replace h_qq := h_qq.below hb
  replace h_rr := h_rr.below hb
  replace h_uu := h_uu.below hb
  clear hb hvq hvr hbq hbr
  have hz : m_ds ≠ 0 := fun h => by
    have h2 := (D.bare_zero h_ds B_ds.out).1 h
    rw [H_ds.out] at h2
    exact H1.out h2
  have b5 : decide (0 < m_ds) = true := by simp; omega
  have b6 : decide ((0 : Int) < (m_ds : Int)) = true := by simp; omega
  clear hz
  go_wp2_with fail
  refine (num_one _).mono ?_
  rintro e w7 ⟨A_d1, m_d1, c_d1, d1, rfl, hm_d1, h_d1, hbare, hv, hb⟩
  have H_d1 : Hid (D.val d1 = 1) := by rw [hv]; rfl
  have B_d1 := Lib.hid hbare
  replace hS := hS.trans (hb.mono hS.size)
  replace hT := hT.below hb
  replace hA := hA.below hb
  replace hB := hB.below hb
  replace h_dx := h_dx.below hb
  replace h_dy := h_dy.below hb
  replace h_qq := h_qq.below hb
  replace h_rr := h_rr.below hb
  replace h_uu := h_uu.below hb
  replace h_dp := h_dp.below hb
  replace h_ds := h_ds.below hb
  clear hb hv hbare
  go_wp2_with fail
  refine (radd_any _ _ _ _ _ _ _ _ _ h_dp h_d1 B_dp.out B_d1.out (by omega) (by omega)).mono ?_
  rintro e w8 ⟨A_du, m_du, c_du, du, rfl, hm_du, h_du, hbare, hv, hb⟩
  have H_du : Hid (D.val du = X / Y + 1) := by rw [hv, H_dp.out, H_d1.out]; rfl
  have B_du := Lib.hid hbare
  replace hS := hS.trans (hb.mono hS.size)
  replace hT := hT.below hb
  replace hA := hA.below hb
  replace hB := hB.below hb
  replace h_dx := h_dx.below hb
  replace h_dy := h_dy.below hb
  replace h_qq := h_qq.below hb
  replace h_rr := h_rr.below hb
  replace h_uu := h_uu.below hb
  replace h_dp := h_dp.below hb
  replace h_ds := h_ds.below hb
  replace h_d1 := h_d1.below hb
  clear hb hv hbare
  go_wp2_with fail
  refine (same_any _ _ _ _ _ _ _ _ _ h_qq B_qq.out h_dp B_dp.out (by rw [H_qq.out, H_dp.out]) (by omega)).mono ?_
  rintro e w9 ⟨rfl, hb⟩
  replace hS := hS.trans (hb.mono hS.size)
  replace hT := hT.below hb
  replace hA := hA.below hb
  replace hB := hB.below hb
  replace h_dx := h_dx.below hb
  replace h_dy := h_dy.below hb
  replace h_qq := h_qq.below hb
  replace h_rr := h_rr.below hb
  replace h_uu := h_uu.below hb
  replace h_dp := h_dp.below hb
  replace h_ds := h_ds.below hb
  replace h_d1 := h_d1.below hb
  replace h_du := h_du.below hb
  clear hb
  go_wp2_with fail
  refine (same_any _ _ _ _ _ _ _ _ _ h_rr B_rr.out h_ds B_ds.out (by rw [H_rr.out, H_ds.out]) (by omega)).mono ?_
  rintro e w10 ⟨rfl, hb⟩
  replace hS := hS.trans (hb.mono hS.size)
  replace hT := hT.below hb
  replace hA := hA.below hb
  replace hB := hB.below hb
  replace h_dx := h_dx.below hb
  replace h_dy := h_dy.below hb
  replace h_qq := h_qq.below hb
  replace h_rr := h_rr.below hb
  replace h_uu := h_uu.below hb
  replace h_dp := h_dp.below hb
  replace h_ds := h_ds.below hb
  replace h_d1 := h_d1.below hb
  replace h_du := h_du.below hb
  clear hb
  go_wp2_with fail
  refine (same_any _ _ _ _ _ _ _ _ _ h_uu B_uu.out h_du B_du.out (by rw [H_uu.out, H_du.out]; exact Hu.out) (by omega)).mono ?_
  rintro e w11 ⟨rfl, hb⟩
  replace hS := hS.trans (hb.mono hS.size)
  replace hT := hT.below hb
  replace hA := hA.below hb
  replace hB := hB.below hb
  replace h_dx := h_dx.below hb
  replace h_dy := h_dy.below hb
  replace h_qq := h_qq.below hb
  replace h_rr := h_rr.below hb
  replace h_uu := h_uu.below hb
  replace h_dp := h_dp.below hb
  replace h_ds := h_ds.below hb
  replace h_d1 := h_d1.below hb
  replace h_du := h_du.below hb
  clear hb
  clear h_qq h_rr h_uu h_dp h_ds h_d1 h_du
  go_wp2_with fail
  refine (small_any _ _ _ _ N _ hA (by omega) hN0 hN R HR2).mono ?_
  rintro e w12 ⟨A_kk, m_kk, c_kk, kk, rfl, hm_kk, h_kk, hbare, hv, hb⟩
  have H_kk : Hid (val kk = X / N) := by rw [hv, HX.out]; rfl
  have B_kk := Lib.hid hbare
  replace hS := hS.trans (hb.mono hS.size)
  replace hT := hT.below hb
  replace hA := hA.below hb
  replace hB := hB.below hb
  replace h_dx := h_dx.below hb
  replace h_dy := h_dy.below hb
  clear hb hv hbare
  go_wp2_with fail
  refine (num_any N hN _).mono ?_
  rintro e w13 ⟨A_dn, m_dn, c_dn, dn, rfl, hm_dn, h_dn, hbare, hv, hb⟩
  have H_dn : Hid (D.val dn = N) := by rw [hv]; rfl
  have B_dn := Lib.hid hbare
  replace hS := hS.trans (hb.mono hS.size)
  replace hT := hT.below hb
  replace hA := hA.below hb
  replace hB := hB.below hb
  replace h_dx := h_dx.below hb
  replace h_dy := h_dy.below hb
  replace h_kk := h_kk.below hb
  clear hb hv hbare
  go_wp2_with fail
  refine (rdiv_any _ _ _ _ _ _ _ _ _ h_dx h_dn B_dx.out B_dn.out (by omega) (by omega) (by rw [H_dn.out]; omega)).mono ?_
  rintro e w14 ⟨A_ep, m_ep, c_ep, ep, A_es, m_es, c_es, es, rfl, hm_ep, hm_es, h_ep, h_es, hbq, hbr, hvq, hvr, hb⟩
  have H_ep : Hid (D.val ep = X / N) := by rw [hvq, H_dx.out, H_dn.out]; rfl
  have H_es : Hid (D.val es = X % N) := by rw [hvr, H_dx.out, H_dn.out]; rfl
  have B_ep := Lib.hid hbq
  have B_es := Lib.hid hbr
  replace hS := hS.trans (hb.mono hS.size)
  replace hT := hT.below hb
  replace hA := hA.below hb
  replace hB := hB.below hb
  replace h_dx := h_dx.below hb
  replace h_dy := h_dy.below hb
  replace h_kk := h_kk.below hb
  replace h_dn := h_dn.below hb
  clear hb hvq hvr hbq hbr
  go_wp2_with fail
  refine (same_any _ _ _ _ _ _ _ _ _ h_kk B_kk.out h_ep B_ep.out (by rw [H_kk.out, H_ep.out]) (by omega)).mono ?_
  rintro e w15 ⟨rfl, hb⟩
  replace hS := hS.trans (hb.mono hS.size)
  replace hT := hT.below hb
  replace hA := hA.below hb
  replace hB := hB.below hb
  replace h_dx := h_dx.below hb
  replace h_dy := h_dy.below hb
  replace h_kk := h_kk.below hb
  replace h_dn := h_dn.below hb
  replace h_ep := h_ep.below hb
  replace h_es := h_es.below hb
  clear hb
  go_wp2_with fail
  refine (of_any R hRb _).mono ?_
  rintro e w16 ⟨A_oo, m_oo, c_oo, oo, rfl, hm_oo, h_oo, hbare, hv, hb⟩
  have H_oo : Hid (val oo = R) := by rw [hv]; rfl
  have B_oo := Lib.hid hbare
  replace hS := hS.trans (hb.mono hS.size)
  replace hT := hT.below hb
  replace hA := hA.below hb
  replace hB := hB.below hb
  replace h_dx := h_dx.below hb
  replace h_dy := h_dy.below hb
  replace h_kk := h_kk.below hb
  replace h_dn := h_dn.below hb
  replace h_ep := h_ep.below hb
  replace h_es := h_es.below hb
  clear hb hv hbare
  go_wp2_with fail
  refine (same_any _ _ _ _ _ _ _ _ _ h_oo B_oo.out h_es B_es.out (by rw [H_oo.out, H_es.out]; exact HR.out.symm) (by omega)).mono ?_
  rintro e w17 ⟨rfl, hb⟩
  replace hS := hS.trans (hb.mono hS.size)
  replace hT := hT.below hb
  replace hA := hA.below hb
  replace hB := hB.below hb
  replace h_dx := h_dx.below hb
  replace h_dy := h_dy.below hb
  replace h_kk := h_kk.below hb
  replace h_dn := h_dn.below hb
  replace h_ep := h_ep.below hb
  replace h_es := h_es.below hb
  replace h_oo := h_oo.below hb
  clear hb
  go_wp2
  go_ret
  exact ⟨rfl, hS⟩


theorem walk_quoDivs (A : Option Addr) (n c : Nat) (xs : List Nat) (B : Option Addr) (m d : Nat) (ys : List Nat) (i : Int) (w : World) (hT : Tab w)
    (hA : Lim w A n c xs) (hn : n ≤ 9223372036854775807) (hB : Lim w B m d ys) (hm : m ≤ 9223372036854775807) (hi : 0 ≤ i) (hi2 : i ≤ 18446744073709551615) :
    Calls Tryd.prog 3 #[.slice A n c, .slice B m d, .int .u64 i] w fun e w' => e = .returned (.bool true) ∧ Below w.heap.size w w' := by
  by_cases h : 30 < n ∨ 30 < m
  · exact qdivs_far A n c B m d i w hT hn hm h
  · by_cases h0 : val ys = 0
    · exact qdivs_nought A n c xs B m d ys i w hT hA hB (by omega) (by omega) h0
    · obtain ⟨N, rfl⟩ : ∃ N : Nat, i = (N : Int) := ⟨i.toNat, by omega⟩
      by_cases h1 : val xs % val ys = 0
      · by_cases h2 : N = 0
        · subst h2
          exact qdivs_even_no A n c xs B m d ys w hT hA hB (by omega) (by omega) h0 h1
        · exact qdivs_even A n c xs B m d ys N w hT hA hB (by omega) (by omega) (by omega) (by omega) h0 h1
      · by_cases h2 : N = 0
        · subst h2
          exact qdivs_odd_no A n c xs B m d ys w hT hA hB (by omega) (by omega) h0 h1
        · exact qdivs_odd A n c xs B m d ys N w hT hA hB (by omega) (by omega) (by omega) (by omega) h0 h1
end Go.Proofs.YtkinflmfeamajaaDoor
