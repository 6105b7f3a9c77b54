/- The walk of the law QuoGcd. (Written by law_qgcd.py.) -/
import Derived.Test.YtkinflmfeamajaaDoorQAlive
namespace Go.Proofs.YtkinflmfeamajaaDoor
open Go.RowKit

set_option maxHeartbeats 4000000 in
set_option maxRecDepth 100000 in
theorem qgcd_far (A : Option Addr) (n c : Nat) (B : Option Addr) (m d : Nat) (C : Option Addr) (l f : Nat) (w : World) (hT : Tab w)
    (hn : n ≤ 9223372036854775807) (hm : m ≤ 9223372036854775807) (hl : l ≤ 9223372036854775807) (hfar : 12 < n ∨ 12 < m ∨ 4 < l) :
    Calls Tryd.prog 5 #[.slice A n c, .slice B m d, .slice C l f] w fun e w' => e = .returned (.bool true) ∧ Below w.heap.size w w' := by
  have Hal := Lib.hid (qalive_any w hT)
  have g : decide ((12 : Int) < (n : Int)) = true ∨ (decide ((12 : Int) < (n : Int)) = false ∧ decide ((12 : Int) < (m : Int)) = true) ∨ (decide ((12 : Int) < (n : Int)) = false ∧ decide ((12 : Int) < (m : Int)) = false ∧ decide ((4 : Int) < (l : Int)) = true) := by
    by_cases h1 : 12 < n
    · exact Or.inl (by simp; omega)
    · by_cases h2 : 12 < m
      · exact Or.inr (Or.inl ⟨by simp; omega, by simp; omega⟩)
      · exact Or.inr (Or.inr ⟨by simp; omega, by simp; omega, by simp; omega⟩)
  clear hfar hT
  rcases g with b1 | ⟨b1, b2⟩ | ⟨b1, b2, b3⟩
  all_goals
    go_enter Tryd.func5, Tryd.ntmps5
    go_wp2_with fail
    refine Hal.out.mono ?_
    rintro e w1 ⟨rfl, hb⟩
    go_wp2
    go_ret
    exact ⟨rfl, hb⟩

set_option maxHeartbeats 8000000 in
set_option maxRecDepth 100000 in
theorem qgcd_near (A : Option Addr) (n c : Nat) (xs : List Nat) (B : Option Addr) (m d : Nat) (ys : List Nat) (C : Option Addr) (l f : Nat) (zs : List Nat) (w : World) (hT : Tab w)
    (hA : Lim w A n c xs) (hB : Lim w B m d ys) (hC : Lim w C l f zs) (hn : n ≤ 12) (hm : m ≤ 12) (hl : l ≤ 4) :
    Calls Tryd.prog 5 #[.slice A n c, .slice B m d, .slice C l f] w fun e w' => e = .returned (.bool true) ∧ Below w.heap.size w w' := by
  have Hal := Lib.hid (qalive_any w hT)
  have hS : Below w.heap.size w w := Below.refl _ _
  obtain ⟨X, hX⟩ : ∃ X, val xs = X := ⟨_, rfl⟩
  obtain ⟨Y, hY⟩ : ∃ Y, val ys = Y := ⟨_, rfl⟩
  obtain ⟨Z, hZ⟩ : ∃ Z, val zs = Z := ⟨_, rfl⟩
  obtain ⟨U, hU⟩ : ∃ U, U = X * Z := ⟨_, rfl⟩
  obtain ⟨V, hV⟩ : ∃ V, V = Y * Z := ⟨_, rfl⟩
  obtain ⟨G, hG⟩ : ∃ G, G = Nat.gcd U V := ⟨_, rfl⟩
  obtain ⟨bu, hbu⟩ : ∃ bu, blen U = bu := ⟨_, rfl⟩
  obtain ⟨bv, hbv⟩ : ∃ bv, blen V = bv := ⟨_, rfl⟩
  have HX := Lib.hid hX
  have HY := Lib.hid hY
  have HZ := Lib.hid hZ
  have HU := Lib.hid hU
  have HV := Lib.hid hV
  have HG := Lib.hid hG
  have Hbu := Lib.hid hbu
  have Hbv := Lib.hid hbv
  have hbz := blen_zero_iff (x := U)
  have hbw := blen_zero_iff (x := V)
  rw [hbu] at hbz
  rw [hbv] at hbw
  have HGZ : Hid (G % Z = 0) := by
    rw [hG, hU, hV, Nat.gcd_mul_right]; exact Nat.mul_mod_left _ _
  have HGU : Hid (U % G = 0) := by rw [hG]; exact Nat.mod_eq_zero_of_dvd (Nat.gcd_dvd_left _ _)
  have HGV : Hid (V % G = 0) := by rw [hG]; exact Nat.mod_eq_zero_of_dvd (Nat.gcd_dvd_right _ _)
  have HGG : Hid (0 < U → Nat.gcd (U / G) (V / G) = 1) := by
    intro h
    have h0 : 0 < Nat.gcd U V := Nat.gcd_pos_of_pos_left _ h
    rw [hG, Nat.gcd_div (Nat.gcd_dvd_left _ _) (Nat.gcd_dvd_right _ _), Nat.div_self h0]
  have HGp : Hid (0 < U → 0 < G) := fun h => by rw [hG]; exact Nat.gcd_pos_of_pos_left _ h
  have HZp : Hid (0 < U → 0 < Z) := fun h => by
    rcases Nat.eq_zero_or_pos Z with h0 | h0
    · rw [hU, h0, Nat.mul_zero] at h; omega
    · exact h0
  have HGs : Hid (U = 0 ∨ V = 0 → G = U + V) := fun h => by
    rcases h with h | h
    · rw [hG, h, Nat.gcd_zero_left, Nat.zero_add]
    · rw [hG, h, Nat.gcd_zero_right, Nat.add_zero]
  have b1 : decide ((12 : Int) < (n : Int)) = false := by simp; omega
  have b2 : decide ((12 : Int) < (m : Int)) = false := by simp; omega
  have b3 : decide ((4 : Int) < (l : Int)) = false := by simp; omega
  clear hX hY hZ hU hV hG hbu hbv
  go_enter Tryd.func5, Tryd.ntmps5
  go_wp2_with fail
  refine (Hal.out).mono ?_
  rintro e w1 ⟨rfl, hb⟩
  replace hS := hS.trans (hb.mono hS.size)
  replace hT := hT.below hb
  replace hA := hA.below hb
  replace hB := hB.below hb
  replace hC := hC.below hb
  clear hb
  go_wp2_with fail
  refine (mul_len _ _ _ _ _ _ _ _ _ hA hC (by omega)).mono ?_
  rintro e w2 ⟨A_xz, m_xz, c_xz, xz, rfl, hm_xz, h_xz, hbare, hv, hb⟩
  have H_xz : Hid (val xz = U) := by rw [hv, HX.out, HZ.out, HU.out]; rfl
  have B_xz := Lib.hid hbare
  replace hS := hS.trans (hb.mono hS.size)
  replace hT := hT.below hb
  replace hA := hA.below hb
  replace hB := hB.below hb
  replace hC := hC.below hb
  clear hb hv hbare
  go_wp2_with fail
  refine (mul_len _ _ _ _ _ _ _ _ _ hB hC (by omega)).mono ?_
  rintro e w3 ⟨A_yz, m_yz, c_yz, yz, rfl, hm_yz, h_yz, hbare, hv, hb⟩
  have H_yz : Hid (val yz = V) := by rw [hv, HY.out, HZ.out, HV.out]; rfl
  have B_yz := Lib.hid hbare
  replace hS := hS.trans (hb.mono hS.size)
  replace hT := hT.below hb
  replace hA := hA.below hb
  replace hB := hB.below hb
  replace hC := hC.below hb
  replace h_xz := h_xz.below hb
  clear hb hv hbare
  go_wp2_with fail
  refine (gcd_any _ _ _ _ _ _ _ _ _ h_xz h_yz 16 (by omega) (by omega) (by decide) hT).mono ?_
  rintro e w4 ⟨A_gg, m_gg, c_gg, gg, rfl, hm_gg, h_gg, hbare, hv, hb⟩
  have H_gg : Hid (val gg = G) := by rw [hv, H_xz.out, H_yz.out, HG.out]; rfl
  have B_gg := Lib.hid hbare
  replace hS := hS.trans (hb.mono hS.size)
  replace hT := hT.below hb
  replace hA := hA.below hb
  replace hB := hB.below hb
  replace hC := hC.below hb
  replace h_xz := h_xz.below hb
  replace h_yz := h_yz.below hb
  clear hb hv hbare
  go_wp2_with fail
  refine (gcd_any _ _ _ _ _ _ _ _ _ h_yz h_xz 16 (by omega) (by omega) (by decide) hT).mono ?_
  rintro e w5 ⟨A_gh, m_gh, c_gh, gh, rfl, hm_gh, h_gh, hbare, hv, hb⟩
  have H_gh : Hid (val gh = G) := by rw [hv, H_xz.out, H_yz.out, HG.out]; exact Nat.gcd_comm _ _
  have B_gh := Lib.hid hbare
  replace hS := hS.trans (hb.mono hS.size)
  replace hT := hT.below hb
  replace hA := hA.below hb
  replace hB := hB.below hb
  replace hC := hC.below hb
  replace h_xz := h_xz.below hb
  replace h_yz := h_yz.below hb
  replace h_gg := h_gg.below hb
  clear hb hv hbare
  go_wp2_with fail
  refine (cmp_b 0 _ _ _ _ _ _ _ _ _ h_gg h_gh (by omega) (by omega) (cmpZ_eq (by rw [H_gg.out, H_gh.out]))).mono ?_
  rintro e w6 ⟨rfl, hb⟩
  replace hS := hS.trans (hb.mono hS.size)
  replace hT := hT.below hb
  replace hA := hA.below hb
  replace hB := hB.below hb
  replace hC := hC.below hb
  replace h_xz := h_xz.below hb
  replace h_yz := h_yz.below hb
  replace h_gg := h_gg.below hb
  replace h_gh := h_gh.below hb
  clear hb
  clear h_gh
  go_wp2_with fail
  refine (gcd_any _ _ _ _ none 0 0 [] _ hA (Lim.nil _ _ _) 16 (by omega) (by decide) (by decide) hT).mono ?_
  rintro e w7 ⟨A_ga, m_ga, c_ga, ga, rfl, hm_ga, h_ga, hbare, hv, hb⟩
  have H_ga : Hid (val ga = X) := by rw [hv, HX.out]; exact Nat.gcd_zero_right _
  have B_ga := Lib.hid hbare
  replace hS := hS.trans (hb.mono hS.size)
  replace hT := hT.below hb
  replace hA := hA.below hb
  replace hB := hB.below hb
  replace hC := hC.below hb
  replace h_xz := h_xz.below hb
  replace h_yz := h_yz.below hb
  replace h_gg := h_gg.below hb
  clear hb hv hbare
  go_wp2_with fail
  refine (cmp_b 0 _ _ _ _ _ _ _ _ _ h_ga hA (by omega) (by omega) (cmpZ_eq (by rw [H_ga.out, HX.out]))).mono ?_
  rintro e w8 ⟨rfl, hb⟩
  replace hS := hS.trans (hb.mono hS.size)
  replace hT := hT.below hb
  replace hA := hA.below hb
  replace hB := hB.below hb
  replace hC := hC.below hb
  replace h_xz := h_xz.below hb
  replace h_yz := h_yz.below hb
  replace h_gg := h_gg.below hb
  replace h_ga := h_ga.below hb
  clear hb
  clear h_ga
  by_cases hu : U = 0
  · have b4 : ((bu : Int) == 0) = true := beq_iff_eq.2 (by have := hbz.2 hu; omega)
    have Hs := Lib.hid (HGs.out (Or.inl hu))
    clear hbz hbw hu
    go_wp2_with fail
    refine (bits_v bu _ _ _ _ _ h_xz (by omega) (by rw [H_xz.out]; exact Hbu)).mono ?_
    rintro e w' ⟨rfl, rfl⟩
    go_wp2_with fail
    refine (add_any _ _ _ _ _ _ _ _ _ h_xz h_yz (by omega) (by omega)).mono ?_
    rintro e w9 ⟨A_uv, m_uv, c_uv, uv, rfl, hm_uv, h_uv, hbare, hv, hb⟩
    have H_uv : Hid (val uv = U + V) := by rw [hv, H_xz.out, H_yz.out]; rfl
    have B_uv := Lib.hid hbare
    replace hS := hS.trans (hb.mono hS.size)
    replace hT := hT.below hb
    replace hA := hA.below hb
    replace hB := hB.below hb
    replace hC := hC.below hb
    replace h_xz := h_xz.below hb
    replace h_yz := h_yz.below hb
    replace h_gg := h_gg.below hb
    clear hb hv hbare
    go_wp2_with fail
    refine (cmp_b 0 _ _ _ _ _ _ _ _ _ h_gg h_uv (by omega) (by omega) (cmpZ_eq (by rw [H_gg.out, H_uv.out]; exact Hs.out))).mono ?_
    rintro e w10 ⟨rfl, hb⟩
    replace hS := hS.trans (hb.mono hS.size)
    replace hT := hT.below hb
    replace hA := hA.below hb
    replace hB := hB.below hb
    replace hC := hC.below hb
    replace h_xz := h_xz.below hb
    replace h_yz := h_yz.below hb
    replace h_gg := h_gg.below hb
    replace h_uv := h_uv.below hb
    clear hb
    go_wp2
    go_ret
    exact ⟨rfl, hS⟩
  · have b4 : ((bu : Int) == 0) = false := beq_eq_false_iff_ne.2 (by have := hbz.1; omega)
    have Hu : Hid (0 < U) := by show 0 < U; omega
    clear hbz
    by_cases hv : V = 0
    · have b5 : ((bv : Int) == 0) = true := beq_iff_eq.2 (by have := hbw.2 hv; omega)
      have Hs := Lib.hid (HGs.out (Or.inr hv))
      clear hbw hv hu
      go_wp2_with fail
      refine (bits_v bu _ _ _ _ _ h_xz (by omega) (by rw [H_xz.out]; exact Hbu)).mono ?_
      rintro e w' ⟨rfl, rfl⟩
      go_wp2_with fail
      refine (bits_v bv _ _ _ _ _ h_yz (by omega) (by rw [H_yz.out]; exact Hbv)).mono ?_
      rintro e w' ⟨rfl, rfl⟩
      go_wp2_with fail
      refine (add_any _ _ _ _ _ _ _ _ _ h_xz h_yz (by omega) (by omega)).mono ?_
      rintro e w9 ⟨A_uv, m_uv, c_uv, uv, rfl, hm_uv, h_uv, hbare, hv, hb⟩
      have H_uv : Hid (val uv = U + V) := by rw [hv, H_xz.out, H_yz.out]; rfl
      have B_uv := Lib.hid hbare
      replace hS := hS.trans (hb.mono hS.size)
      replace hT := hT.below hb
      replace hA := hA.below hb
      replace hB := hB.below hb
      replace hC := hC.below hb
      replace h_xz := h_xz.below hb
      replace h_yz := h_yz.below hb
      replace h_gg := h_gg.below hb
      clear hb hv hbare
      go_wp2_with fail
      refine (cmp_b 0 _ _ _ _ _ _ _ _ _ h_gg h_uv (by omega) (by omega) (cmpZ_eq (by rw [H_gg.out, H_uv.out]; exact Hs.out))).mono ?_
      rintro e w10 ⟨rfl, hb⟩
      replace hS := hS.trans (hb.mono hS.size)
      replace hT := hT.below hb
      replace hA := hA.below hb
      replace hB := hB.below hb
      replace hC := hC.below hb
      replace h_xz := h_xz.below hb
      replace h_yz := h_yz.below hb
      replace h_gg := h_gg.below hb
      replace h_uv := h_uv.below hb
      clear hb
      go_wp2
      go_ret
      exact ⟨rfl, hS⟩
    · have b5 : ((bv : Int) == 0) = false := beq_eq_false_iff_ne.2 (by have := hbw.1; omega)
      clear hbw hv hu
      go_wp2_with fail
      refine (bits_v bu _ _ _ _ _ h_xz (by omega) (by rw [H_xz.out]; exact Hbu)).mono ?_
      rintro e w' ⟨rfl, rfl⟩
      go_wp2_with fail
      refine (bits_v bv _ _ _ _ _ h_yz (by omega) (by rw [H_yz.out]; exact Hbv)).mono ?_
      rintro e w' ⟨rfl, rfl⟩
      go_wp2_with fail
      refine (div_any _ _ _ _ _ _ _ _ _ h_xz h_gg (by omega) (by omega) (by rw [H_gg.out]; have := HGp.out Hu.out; omega) hT).mono ?_
      rintro e w9 ⟨A_pq, m_pq, c_pq, pq, A_pr, m_pr, c_pr, pr, rfl, hm_pq, hm_pr, h_pq, h_pr, hbq, hbr, hvq, hvr, hb⟩
      have H_pq : Hid (val pq = U / G) := by rw [hvq, H_xz.out, H_gg.out]; first | rfl | exact HGU.out
      have H_pr : Hid (val pr = 0) := by rw [hvr, H_xz.out, H_gg.out]; first | rfl | exact HGU.out
      have B_pq := Lib.hid hbq
      have B_pr := Lib.hid hbr
      replace hS := hS.trans (hb.mono hS.size)
      replace hT := hT.below hb
      replace hA := hA.below hb
      replace hB := hB.below hb
      replace hC := hC.below hb
      replace h_xz := h_xz.below hb
      replace h_yz := h_yz.below hb
      replace h_gg := h_gg.below hb
      clear hb hvq hvr hbq hbr
      go_wp2_with fail
      refine (div_any _ _ _ _ _ _ _ _ _ h_yz h_gg (by omega) (by omega) (by rw [H_gg.out]; have := HGp.out Hu.out; omega) hT).mono ?_
      rintro e w10 ⟨A_qq, m_qq, c_qq, qq, A_qr, m_qr, c_qr, qr, rfl, hm_qq, hm_qr, h_qq, h_qr, hbq, hbr, hvq, hvr, hb⟩
      have H_qq : Hid (val qq = V / G) := by rw [hvq, H_yz.out, H_gg.out]; first | rfl | exact HGV.out
      have H_qr : Hid (val qr = 0) := by rw [hvr, H_yz.out, H_gg.out]; first | rfl | exact HGV.out
      have B_qq := Lib.hid hbq
      have B_qr := Lib.hid hbr
      replace hS := hS.trans (hb.mono hS.size)
      replace hT := hT.below hb
      replace hA := hA.below hb
      replace hB := hB.below hb
      replace hC := hC.below hb
      replace h_xz := h_xz.below hb
      replace h_yz := h_yz.below hb
      replace h_gg := h_gg.below hb
      replace h_pq := h_pq.below hb
      replace h_pr := h_pr.below hb
      clear hb hvq hvr hbq hbr
      go_wp2_with fail
      refine (div_any _ _ _ _ _ _ _ _ _ h_gg hC (by omega) (by omega) (by rw [HZ.out]; have := HZp.out Hu.out; omega) hT).mono ?_
      rintro e w11 ⟨A_tq, m_tq, c_tq, tq, A_tr, m_tr, c_tr, tr, rfl, hm_tq, hm_tr, h_tq, h_tr, hbq, hbr, hvq, hvr, hb⟩
      have H_tq : Hid (val tq = G / Z) := by rw [hvq, H_gg.out, HZ.out]; first | rfl | exact HGZ.out
      have H_tr : Hid (val tr = 0) := by rw [hvr, H_gg.out, HZ.out]; first | rfl | exact HGZ.out
      have B_tq := Lib.hid hbq
      have B_tr := Lib.hid hbr
      replace hS := hS.trans (hb.mono hS.size)
      replace hT := hT.below hb
      replace hA := hA.below hb
      replace hB := hB.below hb
      replace hC := hC.below hb
      replace h_xz := h_xz.below hb
      replace h_yz := h_yz.below hb
      replace h_gg := h_gg.below hb
      replace h_pq := h_pq.below hb
      replace h_pr := h_pr.below hb
      replace h_qq := h_qq.below hb
      replace h_qr := h_qr.below hb
      clear hb hvq hvr hbq hbr
      have z1 := (bare_zero h_pr B_pr.out).2 H_pr.out
      have z2 := (bare_zero h_qr B_qr.out).2 H_qr.out
      have z3 := (bare_zero h_tr B_tr.out).2 H_tr.out
      subst z1 z2 z3
      clear h_pr h_qr h_tr h_tq h_gg h_xz h_yz
      go_wp2_with fail
      refine (gcd_any _ _ _ _ _ _ _ _ _ h_pq h_qq 16 (by omega) (by omega) (by decide) hT).mono ?_
      rintro e w12 ⟨A_ge, m_ge, c_ge, ge, rfl, hm_ge, h_ge, hbare, hv, hb⟩
      have H_ge : Hid (val ge = 1) := by rw [hv, H_pq.out, H_qq.out]; exact HGG.out Hu.out
      have B_ge := Lib.hid hbare
      replace hS := hS.trans (hb.mono hS.size)
      replace hT := hT.below hb
      replace hA := hA.below hb
      replace hB := hB.below hb
      replace hC := hC.below hb
      replace h_pq := h_pq.below hb
      replace h_qq := h_qq.below hb
      clear hb hv hbare
      go_wp2_with fail
      refine (cmp_b 0 _ _ _ _ _ _ _ _ _ (h_ge.alloc _) (lim_new1 w12 23 1 1 rfl (by decide)) (by omega) (by decide) (cmpZ_eq (by rw [H_ge.out]; rfl))).mono ?_
      rintro e w13 ⟨rfl, hb⟩
      replace hb := below_new hb
      replace hS := hS.trans (hb.mono hS.size)
      replace hT := hT.below hb
      replace hA := hA.below hb
      replace hB := hB.below hb
      replace hC := hC.below hb
      replace h_pq := h_pq.below hb
      replace h_qq := h_qq.below hb
      replace h_ge := h_ge.below hb
      clear hb
      go_wp2
      go_ret
      exact ⟨rfl, hS⟩

theorem walk_quoGcd (A : Option Addr) (n c : Nat) (xs : List Nat) (B : Option Addr) (m d : Nat) (ys : List Nat) (C : Option Addr) (l f : Nat) (zs : List Nat) (w : World) (hT : Tab w)
    (hA : Lim w A n c xs) (hn : n ≤ 9223372036854775807) (hB : Lim w B m d ys) (hm : m ≤ 9223372036854775807) (hC : Lim w C l f zs) (hl : l ≤ 9223372036854775807) :
    Calls Tryd.prog 5 #[.slice A n c, .slice B m d, .slice C l f] w fun e w' => e = .returned (.bool true) ∧ Below w.heap.size w w' := by
  by_cases h : 12 < n ∨ 12 < m ∨ 4 < l
  · exact qgcd_far A n c B m d C l f w hT hn hm hl h
  · exact qgcd_near A n c xs B m d ys C l f zs w hT hA hB hC (by omega) (by omega) (by omega)
end Go.Proofs.YtkinflmfeamajaaDoor
