/- The walk of the law ProdMuls. (Written by law_muls.py.) -/
import Derived.Test.YtimajgbkmblfmaaPAlive
import Derived.Test.YtimajgbkmblfmaaPSum
namespace Go.Proofs.Ytimajgbkmblfmaa
open Go.RowKit

/-- Sum of a list of three that the caller has just laid. -/
theorem sum3_any (A : Option Addr) (n c : Nat) (xs : List Nat) (B : Option Addr) (m d : Nat) (ys : List Nat) (C : Option Addr) (l f : Nat) (zs : List Nat) (w : World) (hA : Lim w A n c xs) (hB : Lim w B m d ys) (hC : Lim w C l f zs) (hn : n ≤ 1000) (hm : m ≤ 1000) (hl : l ≤ 1000) :
    Calls Try.prog 14 #[.slice (some ⟨w.heap.size, 0, none⟩) 3 3] (w.alloc (.cells #[.slice A n c, .slice B m d, .slice C l f] 22)) (Tells w (val xs + val ys + val zs) 1001) := by
  have hb : Below w.heap.size w (w.alloc (.cells #[.slice A n c, .slice B m d, .slice C l f] 22)) := (Below.refl _ _).alloc (Nat.le_refl _) _
  have hL : Lims (w.alloc (.cells #[.slice A n c, .slice B m d, .slice C l f] 22)) w.heap.size 3 (fun j => if j = 0 then A else if j = 1 then B else C) (fun j => if j = 0 then n else if j = 1 then m else l) (fun j => if j = 0 then c else if j = 1 then d else f) (fun j => if j = 0 then xs else if j = 1 then ys else zs) := by
    refine ⟨by simp, fun j hj => ?_⟩
    have h3 : j = 0 ∨ j = 1 ∨ j = 2 := by omega
    rcases h3 with rfl | rfl | rfl
    · exact ⟨by simp [World.cell?_alloc_new], hA.below hb, by show n ≤ _; omega⟩
    · exact ⟨by simp [World.cell?_alloc_new], hB.below hb, by show m ≤ _; omega⟩
    · exact ⟨by simp [World.cell?_alloc_new], hC.below hb, by show l ≤ _; omega⟩
  refine (sum_any w.heap.size 3 3 _ _ _ _ _ hL (by decide) 1000 (fun j _ => by split <;> (try split) <;> omega)).mono ?_
  rintro e w' ⟨A1, m1, c1, us, h1, h2, h3, h4, h5, h6⟩
  refine ⟨A1, m1, c1, us, h1, h2, h3, h4, ?_, hb.trans (h6.mono hb.size)⟩
  rw [h5]
  simp [tot]

set_option maxHeartbeats 4000000 in
set_option maxRecDepth 100000 in
theorem muls_far (A : Option Addr) (n c : Nat) (B : Option Addr) (m d : Nat) (i : Int) (w : World)
    (hn : n ≤ 9223372036854775807) (hm : m ≤ 9223372036854775807) (hfar : 40 < n ∨ 40 < m) :
    Calls Try.prog 3 #[.slice A n c, .slice B m d, .int .u64 i] w fun e w' => e = .returned (.bool true) ∧ Below w.heap.size w w' := by
  have Hal := Lib.hid (alive_any w)
  have g : decide ((40 : Int) < (n : Int)) = true ∨ (decide ((40 : Int) < (n : Int)) = false ∧ decide ((40 : Int) < (m : Int)) = true) := by
    by_cases h1 : 40 < n
    · exact Or.inl (by simp; omega)
    · exact Or.inr ⟨by simp; omega, by simp; omega⟩
  clear hfar
  rcases g with b1 | ⟨b1, b2⟩
  all_goals
    go_enter Try.func3, Try.ntmps3
    go_wp2_with fail
    refine Hal.out.mono ?_
    rintro e w1 ⟨rfl, hb⟩
    go_wp2
    go_ret
    exact ⟨rfl, hb⟩

set_option maxHeartbeats 8000000 in
set_option maxRecDepth 100000 in
theorem muls_near (A : Option Addr) (n c : Nat) (xs : List Nat) (B : Option Addr) (m d : Nat) (ys : List Nat) (i : Nat) (w : World)
    (hA : Lim w A n c xs) (hB : Lim w B m d ys) (hn : n ≤ 40) (hm : m ≤ 40) (hi : i < 18446744073709551616) :
    Calls Try.prog 3 #[.slice A n c, .slice B m d, .int .u64 (i : Int)] w fun e w' => e = .returned (.bool true) ∧ Below w.heap.size w w' := by
  have Hal := Lib.hid (alive_any w)
  have hS : Below w.heap.size w w := Below.refl _ _
  have hbl := hA.blen_le
  have Hbl : Hid (blen (val xs) + 64 ≤ 65536) := by show _ ≤ _; omega
  obtain ⟨X, hX⟩ : ∃ X, val xs = X := ⟨_, rfl⟩
  obtain ⟨Y, hY⟩ : ∃ Y, val ys = Y := ⟨_, rfl⟩
  have HX := Lib.hid hX
  have HY := Lib.hid hY
  have b1 : decide ((40 : Int) < (n : Int)) = false := by simp; omega
  have b2 : decide ((40 : Int) < (m : Int)) = false := by simp; omega
  clear hX hY hbl
  go_enter Try.func3, Try.ntmps3
  go_wp2_with fail
  refine (Hal.out).mono ?_
  rintro e w1 ⟨rfl, hb⟩
  replace hS := hS.trans (hb.mono hS.size)
  replace hA := hA.below hb
  replace hB := hB.below hb
  clear hb
  go_wp2_with fail
  refine (to_any _ _ _ _ _ hA (by omega)).mono ?_
  rintro e w2 ⟨A_dx, m_dx, c_dx, dx, rfl, hm_dx, h_dx, hbare, hv, hb⟩
  have H_dx : Hid (D.val dx = X) := by rw [hv, HX.out]; rfl
  have B_dx := Lib.hid hbare
  replace hS := hS.trans (hb.mono hS.size)
  replace hA := hA.below hb
  replace hB := hB.below hb
  clear hb hv hbare
  go_wp2_with fail
  refine (to_any _ _ _ _ _ hB (by omega)).mono ?_
  rintro e w3 ⟨A_dy, m_dy, c_dy, dy, rfl, hm_dy, h_dy, hbare, hv, hb⟩
  have H_dy : Hid (D.val dy = Y) := by rw [hv, HY.out]; rfl
  have B_dy := Lib.hid hbare
  replace hS := hS.trans (hb.mono hS.size)
  replace hA := hA.below hb
  replace hB := hB.below hb
  replace h_dx := h_dx.below hb
  clear hb hv hbare
  go_wp2_with fail
  refine (mul_len _ _ _ _ _ _ _ _ _ hA hB (by omega)).mono ?_
  rintro e w4 ⟨A_mm, m_mm, c_mm, mm, rfl, hm_mm, h_mm, hbare, hv, hb⟩
  have H_mm : Hid (val mm = X * Y) := by rw [hv, HX.out, HY.out]; rfl
  have B_mm := Lib.hid hbare
  replace hS := hS.trans (hb.mono hS.size)
  replace hA := hA.below hb
  replace hB := hB.below hb
  replace h_dx := h_dx.below hb
  replace h_dy := h_dy.below hb
  clear hb hv hbare
  go_wp2_with fail
  refine (times_any _ _ _ _ i _ hA (by omega) hi Hbl.out).mono ?_
  rintro e w5 ⟨A_tt, m_tt, c_tt, tt, rfl, hm_tt, h_tt, hbare, hv, hb⟩
  have H_tt : Hid (val tt = X * i) := by rw [hv, HX.out]; rfl
  have B_tt := Lib.hid hbare
  replace hS := hS.trans (hb.mono hS.size)
  replace hA := hA.below hb
  replace hB := hB.below hb
  replace h_dx := h_dx.below hb
  replace h_dy := h_dy.below hb
  replace h_mm := h_mm.below hb
  clear hb hv hbare
  go_wp2_with fail
  refine (rmul_any _ _ _ _ _ _ _ _ _ h_dx h_dy (by omega) (by omega)).mono ?_
  rintro e w6 ⟨A_dm, m_dm, c_dm, dm, rfl, hm_dm, h_dm, hbare, hv, hb⟩
  have H_dm : Hid (D.val dm = X * Y) := by rw [hv, H_dx.out, H_dy.out]; rfl
  have B_dm := Lib.hid hbare
  replace hS := hS.trans (hb.mono hS.size)
  replace hA := hA.below hb
  replace hB := hB.below hb
  replace h_dx := h_dx.below hb
  replace h_dy := h_dy.below hb
  replace h_mm := h_mm.below hb
  replace h_tt := h_tt.below hb
  clear hb hv hbare
  go_wp2_with fail
  refine (same_any _ _ _ _ _ _ _ _ _ h_mm B_mm.out h_dm B_dm.out (by rw [H_mm.out, H_dm.out]) (by omega)).mono ?_
  rintro e w7 ⟨rfl, hb⟩
  replace hS := hS.trans (hb.mono hS.size)
  replace hA := hA.below hb
  replace hB := hB.below hb
  replace h_dx := h_dx.below hb
  replace h_dy := h_dy.below hb
  replace h_mm := h_mm.below hb
  replace h_tt := h_tt.below hb
  replace h_dm := h_dm.below hb
  clear hb
  clear h_mm h_dm
  go_wp2_with fail
  refine (num_any i hi _).mono ?_
  rintro e w8 ⟨A_di, m_di, c_di, di, rfl, hm_di, h_di, hbare, hv, hb⟩
  have H_di : Hid (D.val di = i) := by rw [hv]; rfl
  have B_di := Lib.hid hbare
  replace hS := hS.trans (hb.mono hS.size)
  replace hA := hA.below hb
  replace hB := hB.below hb
  replace h_dx := h_dx.below hb
  replace h_dy := h_dy.below hb
  replace h_tt := h_tt.below hb
  clear hb hv hbare
  go_wp2_with fail
  refine (rmul_any _ _ _ _ _ _ _ _ _ h_dx h_di (by omega) (by omega)).mono ?_
  rintro e w9 ⟨A_dt, m_dt, c_dt, dt, rfl, hm_dt, h_dt, hbare, hv, hb⟩
  have H_dt : Hid (D.val dt = X * i) := by rw [hv, H_dx.out, H_di.out]; rfl
  have B_dt := Lib.hid hbare
  replace hS := hS.trans (hb.mono hS.size)
  replace hA := hA.below hb
  replace hB := hB.below hb
  replace h_dx := h_dx.below hb
  replace h_dy := h_dy.below hb
  replace h_tt := h_tt.below hb
  replace h_di := h_di.below hb
  clear hb hv hbare
  go_wp2_with fail
  refine (same_any _ _ _ _ _ _ _ _ _ h_tt B_tt.out h_dt B_dt.out (by rw [H_tt.out, H_dt.out]) (by omega)).mono ?_
  rintro e w10 ⟨rfl, hb⟩
  replace hS := hS.trans (hb.mono hS.size)
  replace hA := hA.below hb
  replace hB := hB.below hb
  replace h_dx := h_dx.below hb
  replace h_dy := h_dy.below hb
  replace h_tt := h_tt.below hb
  replace h_di := h_di.below hb
  replace h_dt := h_dt.below hb
  clear hb
  clear h_tt h_di h_dt
  go_wp2_with fail
  refine (sum3_any _ _ _ _ _ _ _ _ _ _ _ _ _ hA hB hA (by omega) (by omega) (by omega)).mono ?_
  rintro e w11 ⟨A_ss, m_ss, c_ss, ss, rfl, hm_ss, h_ss, hbare, hv, hb⟩
  have H_ss : Hid (val ss = X + Y + X) := by rw [hv, HX.out, HY.out]; rfl
  have B_ss := Lib.hid hbare
  replace hS := hS.trans (hb.mono hS.size)
  replace hA := hA.below hb
  replace hB := hB.below hb
  replace h_dx := h_dx.below hb
  replace h_dy := h_dy.below hb
  clear hb hv hbare
  go_wp2_with fail
  refine (radd_any _ _ _ _ _ _ _ _ _ h_dx h_dy B_dx.out B_dy.out (by omega) (by omega)).mono ?_
  rintro e w12 ⟨A_e1, m_e1, c_e1, e1, rfl, hm_e1, h_e1, hbare, hv, hb⟩
  have H_e1 : Hid (D.val e1 = X + Y) := by rw [hv, H_dx.out, H_dy.out]; rfl
  have B_e1 := Lib.hid hbare
  replace hS := hS.trans (hb.mono hS.size)
  replace hA := hA.below hb
  replace hB := hB.below hb
  replace h_dx := h_dx.below hb
  replace h_dy := h_dy.below hb
  replace h_ss := h_ss.below hb
  clear hb hv hbare
  go_wp2_with fail
  refine (radd_any _ _ _ _ _ _ _ _ _ h_e1 h_dx B_e1.out B_dx.out (by omega) (by omega)).mono ?_
  rintro e w13 ⟨A_e2, m_e2, c_e2, e2, rfl, hm_e2, h_e2, hbare, hv, hb⟩
  have H_e2 : Hid (D.val e2 = X + Y + X) := by rw [hv, H_e1.out, H_dx.out]; rfl
  have B_e2 := Lib.hid hbare
  replace hS := hS.trans (hb.mono hS.size)
  replace hA := hA.below hb
  replace hB := hB.below hb
  replace h_dx := h_dx.below hb
  replace h_dy := h_dy.below hb
  replace h_ss := h_ss.below hb
  replace h_e1 := h_e1.below hb
  clear hb hv hbare
  go_wp2_with fail
  refine (same_any _ _ _ _ _ _ _ _ _ h_ss B_ss.out h_e2 B_e2.out (by rw [H_ss.out, H_e2.out]) (by omega)).mono ?_
  rintro e w14 ⟨rfl, hb⟩
  replace hS := hS.trans (hb.mono hS.size)
  replace hA := hA.below hb
  replace hB := hB.below hb
  replace h_dx := h_dx.below hb
  replace h_dy := h_dy.below hb
  replace h_ss := h_ss.below hb
  replace h_e1 := h_e1.below hb
  replace h_e2 := h_e2.below hb
  clear hb
  go_wp2
  go_ret
  exact ⟨rfl, hS⟩

theorem walk_prodMuls (A : Option Addr) (n c : Nat) (xs : List Nat) (B : Option Addr) (m d : Nat) (ys : List Nat) (i : Int) (w : World)
    (hA : Lim w A n c xs) (hn : n ≤ 9223372036854775807) (hB : Lim w B m d ys) (hm : m ≤ 9223372036854775807) (hi : 0 ≤ i) (hi2 : i ≤ 18446744073709551615) :
    Calls Try.prog 3 #[.slice A n c, .slice B m d, .int .u64 i] w fun e w' => e = .returned (.bool true) ∧ Below w.heap.size w w' := by
  by_cases h : 40 < n ∨ 40 < m
  · exact muls_far A n c B m d i w hn hm h
  · obtain ⟨j, rfl⟩ : ∃ j : Nat, i = (j : Int) := ⟨i.toNat, by omega⟩
    exact muls_near A n c xs B m d ys j w hA hB (by omega) (by omega) (by omega)
end Go.Proofs.Ytimajgbkmblfmaa
