/- The walks of round.cut and count, up to 4096 above the unit (written by mk_ivcut.py). -/
import Derived.Test.YtnkbdjbcfkflpaaDoorK3
import Derived.Test.YtnkbdjbcfkflpaaDoorIvUp
namespace Go.Proofs.YtnkbdjbcfkflpaaDoor
open Go.RowKit

theorem rcut_big (U : Nat) (H B : Bool) (g : Bool) (A : Option Addr) (n c : Nat) (xs : List Nat) (e0 u : Int) (w : World) (hA : Lim w A n c xs) (hn : n ≤ 4294967295) (hT : Tab w)
    (h1 : -2147483648 ≤ e0) (h2 : e0 ≤ 2147483648) (h3 : -2147483648 ≤ u) (h4 : u ≤ 2147483648) (h5 : e0 ≤ u + 4096) (hU : Hid (rU (val xs) e0 u = U)) (hH : Hid (rH (val xs) e0 u = H)) (hB : Hid (rB (val xs) e0 u = B)) :
    Calls Tryd.prog 110 #[.agg #[.bool g, .slice A n c, .int .i64 e0], .int .i64 u] w (TellsC w U (n + 65) H B) := by
  have a3 := below1 w (.cells #[.bool g, .slice A n c, .int .i64 e0] 36)
  have HS := Lib.hid a3
  have hUo := hU.out
  have hHo := hH.out
  have hBo := hB.out
  unfold rU at hUo
  unfold rH at hHo
  unfold rB at hBo
  clear hU hH hB
  by_cases hue : u ≤ e0
  · rw [if_pos hue] at hUo hHo hBo
    subst hHo hBo
    obtain ⟨N, hN⟩ : ∃ N : Nat, (e0 - u).toNat = N := ⟨_, rfl⟩
    rw [hN] at hUo
    have eN : e0 - u = (N : Int) := by omega
    have H1 := up_big A n c xs N _ (hA.below a3) (by omega) (hT.below a3) (by omega)
    rw [hUo] at H1
    have H1 := Lib.hid H1
    have b1 : decide (u ≤ e0) = true := decide_eq_true hue
    clear hA hT a3 hUo hue hN h5
    go_enter Tryd.func110, Tryd.ntmps110
    go_wp2_with fail
    refine H1.out.mono ?_
    rintro e w2 ⟨A2, m2, c2, zs, rfl, hm2, hl2, hb2, hv2, hB2⟩
    have Hfin : Hid (TellsC w U (n + 65) false false (.returned (.tuple #[.slice A2 m2 c2, .bool false, .bool false])) w2) := ⟨A2, m2, c2, zs, rfl, hm2, hl2, hb2, hv2, HS.out.trans (hB2.mono HS.out.size)⟩
    clear hl2 hb2 hv2 hB2 H1 HS
    go_wp2
    go_ret3
    exact Hfin.out
  · rw [if_neg hue] at hUo hHo hBo
    obtain ⟨N, hN⟩ : ∃ N : Nat, (u - e0 - 1).toNat = N := ⟨_, rfl⟩
    rw [hN] at hUo hHo hBo
    have eN : u - e0 - 1 = (N : Int) := by omega
    have H1 := Lib.hid (shr_l N A n c xs _ (hA.below a3) (by omega) (hT.below a3) (by omega) B hBo)
    have HT := Lib.hid (hT.below a3)
    have b1 : decide (u ≤ e0) = false := decide_eq_false hue
    generalize val xs / 2 ^ N = Q at hUo hHo H1
    have HU := Lib.hid hUo
    have HH := Lib.hid hHo
    clear hA hT a3 hBo hUo hHo hue hN h5
    go_enter Tryd.func110, Tryd.ntmps110
    go_wp2_with fail
    refine H1.out.mono ?_
    rintro e w2 ⟨A2, m2, c2, zs, rfl, hm2, hl2, hb2, hv2, hB2⟩
    obtain ⟨bb, hbb⟩ : ∃ bb, decide (val zs % 2 ^ 1 ≠ 0) = bb := ⟨_, rfl⟩
    have H2 := shr_l 1 A2 m2 c2 zs w2 hl2 (by omega) (HT.out.below hB2) (by omega) bb hbb
    rw [hv2, Nat.pow_one, HU.out] at H2
    rw [show ((1 : Nat) : Int) = 1 from rfl] at H2
    have H2 := Lib.hid H2
    have HL2 := Lib.hid hl2
    have HS2 := Lib.hid (HS.out.trans (hB2.mono HS.out.size))
    have HHz : Hid (decide (val zs % 2 = 1) = H) := by rw [hv2]; exact HH.out
    clear hl2 hb2 hv2 hB2 H1 HS hbb HT HU HH
    go_wp2_with fail
    refine H2.out.mono ?_
    rintro e w3 ⟨A3, m3, c3, ys, rfl, hm3, hl3, hb3, hv3, hB3⟩
    have H3 := odd_any A2 m2 c2 zs w3 (HL2.out.below hB3) (by omega)
    rw [HHz.out] at H3
    have H3 := Lib.hid H3
    have Hfin : Hid (TellsC w U (n + 65) H B (.returned (.tuple #[.slice A3 m3 c3, .bool H, .bool B])) w3) := ⟨A3, m3, c3, ys, rfl, by omega, hl3, hb3, hv3, HS2.out.trans (hB3.mono HS2.out.size)⟩
    clear hl3 hb3 hv3 hB3 H2 HS2 HHz
    go_wp2_with fail
    refine H3.out.mono ?_
    rintro e w' ⟨rfl, rfl⟩
    go_wp2
    go_ret3
    exact Hfin.out

theorem count_big (v H B more : Bool) (U V2 : Nat) (g : Bool) (A : Option Addr) (n c : Nat) (xs : List Nat) (e0 u dir : Int) (w : World) (hA : Lim w A n c xs) (hn : n ≤ 4294967295) (hT : Tab w)
    (h1 : -2147483648 ≤ e0) (h2 : e0 ≤ 2147483648) (h3 : -2147483648 ≤ u) (h4 : u ≤ 2147483648) (h5 : e0 ≤ u + 4096) (hU : Hid (rU (val xs) e0 u = U)) (hH : Hid (rH (val xs) e0 u = H)) (hB : Hid (rB (val xs) e0 u = B))
    (hv : Hid (awy g dir (decide (U % 2 = 1)) H (B || more) = v)) (hV2 : Hid (U + v.toNat = V2)) :
    Calls Tryd.prog 99 #[.agg #[.bool g, .slice A n c, .int .i64 e0], .bool more, .int .i64 dir, .int .i64 u] w (Tells2 w V2 (n + 67) (.bool (H || (B || more)))) := by
  have a3 := below1 w (.cells #[.bool g, .slice A n c, .int .i64 e0] 36)
  have HS := Lib.hid a3
  have H1 := Lib.hid (rcut_big U H B g A n c xs e0 u _ (hA.below a3) hn (hT.below a3) h1 h2 h3 h4 h5 hU hH hB)
  have Hbd := Lib.hid (Bd.new w 36 g A n c e0)
  clear hA hT a3 h1 h2 h3 h4 h5 hU hH hB
  obtain ⟨b, hb⟩ : ∃ b, (B || more) = b := ⟨_, rfl⟩
  rw [hb] at hv ⊢
  have hbm : (B = true ∧ b = true) ∨ (B = false ∧ more = b) := by cases B <;> simp_all
  clear hb
  obtain ⟨od, hod⟩ : ∃ od, decide (U % 2 = 1) = od := ⟨_, rfl⟩
  rw [hod] at hv
  have Hod := Lib.hid hod
  clear hod
  have key : ∀ (B2 : Bool), (B2 = B) → (B2 = true ∧ b = true) ∨ (B2 = false ∧ more = b) → Calls Tryd.prog 99 #[.agg #[.bool g, .slice A n c, .int .i64 e0], .bool more, .int .i64 dir, .int .i64 u] w (Tells2 w V2 (n + 67) (.bool (H || b))) := by
    intro B2 hB2 hbm2
    subst hB2
    clear hbm
    rcases hbm2 with ⟨rfl, rfl⟩ | ⟨rfl, rfl⟩
    all_goals (
      go_enter Tryd.func99, Tryd.ntmps99
      go_wp2_with fail
      refine H1.out.mono ?_
      rintro e w2 ⟨A2, m2, c2, zs, rfl, hm2, hl2, hb2, hv2, hB2⟩
      have H3 := fun q => odd_any A2 m2 c2 zs (w2.drewN q) (hl2.drewN q) (by omega)
      rw [hv2, Hod.out] at H3
      have H3 := Lib.hid H3
      have HL2 := Lib.hid hl2
      have Hb2 := Lib.hid hb2
      have Hv2 := Lib.hid hv2
      have HS2 := Lib.hid (HS.out.trans (hB2.mono HS.out.size))
      have kk := Hbd.out.below hB2
      have x0 := kk.c0
      clear hl2 hb2 hv2 hB2 H1 HS kk Hbd
      cases v with
      | false =>
        obtain rfl : U = V2 := hV2.out
        go_wp2
        go_quiet (first | (go_at_call 112; exact quiet_one (H3.out _)) | (go_at_call 111; exact quiet_one (away_l false g dir od H _ _ hv)))
        cases H <;> (
          go_wp2
          go_ret2
          exact ⟨A2, m2, c2, zs, rfl, by omega, HL2.out.drewN _, Hb2.out, Hv2.out, below_drewN HS2.out _⟩)
      | true =>
        have hV3 : U + 1 = V2 := hV2.out
        go_wp2
        go_quiet (first | (go_at_call 112; exact quiet_one (H3.out _)) | (go_at_call 111; exact quiet_one (away_l true g dir od H _ _ hv)))
        go_wp2_with fail
        refine (of_any 1 (by decide) _).mono ?_
        rintro e w3 ⟨A3, m3, c3, ys, rfl, hm3, hl3, hb3, hv3, hB3⟩
        have HS3 := Lib.hid ((below_drewN HS2.out _).trans (hB3.mono (below_drewN HS2.out _).size))
        have H4 := add_any A2 m2 c2 zs A3 m3 c3 ys w3 ((HL2.out.drewN _).below hB3) hl3 (by omega) (by omega)
        rw [Hv2.out, hv3, hV3] at H4
        have H4 := Lib.hid H4
        clear hl3 hb3 hv3 hB3 HS2 HL2 Hb2 Hv2 x0
        go_wp2_with fail
        refine H4.out.mono ?_
        rintro e w4 ⟨A4, m4, c4, us, rfl, hm4, hl4, hb4, hv4, hB4⟩
        have Hfin := Lib.hid (show Lim w4 A4 m4 c4 us ∧ Bare us ∧ val us = V2 ∧ Below w.heap.size w w4 from ⟨hl4, hb4, hv4, HS3.out.trans (hB4.mono HS3.out.size)⟩)
        clear hl4 hb4 hv4 hB4 HS3 H4
        cases H <;> (
          go_wp2
          go_ret2
          exact ⟨A4, m4, c4, us, rfl, by omega, Hfin.out⟩))
  exact key B rfl hbm
end Go.Proofs.YtnkbdjbcfkflpaaDoor
