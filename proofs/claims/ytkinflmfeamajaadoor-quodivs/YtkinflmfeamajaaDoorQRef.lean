/- The walk of planimeterref03.Div. -/
import Derived.Test.YtkinflmfeamajaaDoorPRMul
import Derived.Test.YtkinflmfeamajaaDoorWRCmp
import Derived.Test.YtkinflmfeamajaaDoorWRBit
namespace Go.Proofs.YtkinflmfeamajaaDoor
open Go.RowKit

/-- Two numbers in digits. -/
def DTellsD (w : World) (Q R L M : Nat) (e : Ending) (w' : World) : Prop :=
  ∃ A m c zs A' m' c' ys, e = .returned (.tuple #[.slice A m c, .slice A' m' c']) ∧ m ≤ L ∧ m' ≤ M ∧ Dig w' A m c zs ∧ Dig w' A' m' c' ys ∧ D.Bare zs ∧ D.Bare ys ∧ D.val zs = Q ∧ D.val ys = R ∧ Below w.heap.size w w'

/-- One bit more. -/
theorem bit_more (X i : Nat) : X / 2 ^ i = 2 * (X / 2 ^ (i + 1)) + X / 2 ^ i % 2 := by
  rw [Nat.pow_succ, ← Nat.div_div_eq_div_mul]
  omega
theorem div_one {T Y v : Nat} (hY : 0 < Y) (hv : v ≤ 1) (h : Y ≤ 2 * (T % Y) + v) : (2 * T + v) / Y = 2 * (T / Y) + 1 ∧ (2 * T + v) % Y = 2 * (T % Y) + v - Y := by
  have h1 := Nat.div_add_mod T Y
  have h2 := Nat.mod_lt T hY
  have e : 2 * T + v = (2 * (T % Y) + v - Y) + Y * (2 * (T / Y) + 1) := by
    have : Y * (2 * (T / Y) + 1) = 2 * (Y * (T / Y)) + Y := by rw [Nat.mul_add, Nat.mul_left_comm, Nat.mul_one]
    omega
  refine ⟨?_, ?_⟩
  · rw [e, Nat.add_mul_div_left _ _ hY, Nat.div_eq_of_lt (by omega), Nat.zero_add]
  · conv => lhs; rw [e]
    rw [Nat.add_mul_mod_self_left, Nat.mod_eq_of_lt (by omega)]
theorem div_none {T Y v : Nat} (hY : 0 < Y) (h : 2 * (T % Y) + v < Y) : (2 * T + v) / Y = 2 * (T / Y) + 0 ∧ (2 * T + v) % Y = 2 * (T % Y) + v := by
  have h1 := Nat.div_add_mod T Y
  have e : 2 * T + v = (2 * (T % Y) + v) + Y * (2 * (T / Y)) := by
    have : Y * (2 * (T / Y)) = 2 * (Y * (T / Y)) := Nat.mul_left_comm _ _ _
    omega
  refine ⟨?_, ?_⟩
  · rw [e, Nat.add_mul_div_left _ _ hY, Nat.div_eq_of_lt h, Nat.zero_add, Nat.add_zero]
  · conv => lhs; rw [e]
    rw [Nat.add_mul_mod_self_left, Nat.mod_eq_of_lt h]
theorem D.len_lt {zs : List Nat} (hb : D.Bare zs) {n M : Nat} (hl : zs.length = n) (h : D.val zs < D.pw M) : n ≤ M := by
  rcases Nat.lt_or_ge M n with h1 | h1
  · obtain ⟨j, hj⟩ : ∃ j, D.tl zs = j + 1 := ⟨D.tl zs - 1, by rw [hb]; omega⟩
    have h2 := D.val_pos_of_tl hj
    have h3 := D.pw_mono (show M ≤ j by rw [hb] at hj; omega)
    omega
  · exact h1

set_option maxHeartbeats 4000000 in
set_option maxRecDepth 100000 in
theorem rdiv_any (A : Option Addr) (n c : Nat) (us : List Nat) (B : Option Addr) (m d : Nat) (bs : List Nat) (w : World) (hA : Dig w A n c us) (hB : Dig w B m d bs) (ba : D.Bare us) (bb : D.Bare bs) (hn : n ≤ 100000) (hm : m ≤ 100000) (h0 : D.val bs ≠ 0) :
    Calls Tryd.prog 11 #[.slice A n c, .slice B m d] w (DTellsD w (D.val us / D.val bs) (D.val us % D.val bs) n m) := by
  have HA := Lib.hid hA
  have HB := Lib.hid hB
  have HbB := Lib.hid bb
  have hx := D.val_lt hA.words
  have hy := D.val_lt hB.words
  rw [hA.len] at hx
  rw [hB.len] at hy
  obtain ⟨bl, hbl⟩ : ∃ bl, blen (D.val us) = bl := ⟨_, rfl⟩
  have hblb : bl ≤ 16 * n := by
    rw [← hbl]; apply blen_le_iff.2
    rw [← D.pw_two]; exact hx
  have Hbits := Lib.hid (rbits_any A n c us w hA ba (by omega))
  rw [hbl] at Hbits
  obtain ⟨X, hX⟩ : ∃ X, D.val us = X := ⟨_, rfl⟩
  obtain ⟨Y, hY⟩ : ∃ Y, D.val bs = Y := ⟨_, rfl⟩
  rw [hX] at hx hbl ⊢
  rw [hY] at hy h0 ⊢
  have HX := Lib.hid hX
  have HY := Lib.hid hY
  have Hx := Lib.hid hx
  have Hy := Lib.hid hy
  have HY0 : Hid (0 < Y) := Nat.pos_of_ne_zero h0
  have Hst : Hid (X / 2 ^ bl = 0) := by
    rw [← hbl]; exact Nat.div_eq_of_lt (lt_blen X)
  clear hA hB ba bb hx hy hbl hX hY h0
  go_enter Tryd.func11, Tryd.ntmps11
  go_wp2_with fail
  refine Hbits.out.mono ?_
  rintro e w' ⟨rfl, rfl⟩
  go_wp2_with fail
  go_loopw [6, 7, 8] (fun s6 s7 i wr => ∃ (j m1 c1 m2 c2 : Nat) (A1 A2 : Option Addr) (qs rs : List Nat), j ≤ bl ∧ i = .int .i64 ((j : Int) - 1) ∧ s6 = .slice A1 m1 c1 ∧ s7 = .slice A2 m2 c2 ∧ m1 ≤ n ∧ m2 ≤ m ∧ Hid (Dig wr A1 m1 c1 qs) ∧ Hid (Dig wr A2 m2 c2 rs) ∧ Hid (D.Bare qs) ∧ Hid (D.Bare rs) ∧ Hid (D.val qs = X / 2 ^ j / Y) ∧ Hid (D.val rs = X / 2 ^ j % Y) ∧ Hid (Below w.heap.size w wr)) (fun _ _ i _ => (intOf i + 1).toNat)
  case atStart => exact ⟨bl, 0, 0, 0, 0, none, none, [], [], Nat.le_refl _, by go_num, rfl, rfl, Nat.zero_le _, Nat.zero_le _, Dig.nil _ _ _, Dig.nil _ _ _, rfl, rfl, by rw [Hst.out, Nat.zero_div]; rfl, by rw [Hst.out, Nat.zero_mod]; rfl, Below.refl _ _⟩
  case round =>
    obtain ⟨w1, rfl⟩ : ∃ w1, w1 = wr := ⟨_, rfl⟩
    obtain ⟨j, m1, c1, m2, c2, A1, A2, qs, rs, hj, rfl, rfl, rfl, hm1, hm2, HQ, HR, HbQ, HbR, HVq, HVr, HS⟩ := hrel
    by_cases hj0 : 0 < j
    · obtain ⟨i, rfl⟩ : ∃ i, j = i + 1 := ⟨j - 1, by omega⟩
      obtain ⟨v, hv⟩ : ∃ v, X / 2 ^ i % 2 = v := ⟨_, rfl⟩
      have hv1 : v ≤ 1 := by omega
      have Hv : Hid (D.val us / 2 ^ i % 2 = v) := by rw [HX.out]; exact hv
      have hT := bit_more X i
      rw [hv] at hT
      obtain ⟨T, hTe⟩ : ∃ T, X / 2 ^ (i + 1) = T := ⟨_, rfl⟩
      rw [hTe] at hT HVq HVr
      have HT := Lib.hid hT
      have Hbit := Lib.hid (rbit_any v A n c us i w1 (HA.out.below HS.out) (by omega) (by omega) Hv)
      have Hdbl := Lib.hid (rdouble_any A2 m2 c2 rs v w1 HR.out HbR.out hv1 (by omega))
      have e1 : ((i + 1 : Nat) : Int) - 1 = (i : Int) := by omega
      rw [e1]
      clear hv hT hTe e1 hj0
      go_wp2_with fail
      refine Hbit.out.mono ?_
      rintro e w' ⟨rfl, rfl⟩
      go_wp2_with fail
      refine Hdbl.out.mono ?_
      rintro e w2 ⟨A3, m3, c3, ts, rfl, hm3, hl3, hb3, hv3, hB3⟩
      rw [HVr.out] at hv3
      have HS2 := Lib.hid (HS.out.trans (hB3.mono HS.out.size))
      have HQ2 := Lib.hid (HQ.out.below hB3)
      have H3 := Lib.hid hl3
      have Hb3 := Lib.hid hb3
      have Hv3 := Lib.hid hv3
      obtain ⟨cv, hcv⟩ : ∃ cv, cmpZ (D.val ts) (D.val bs) = cv := ⟨_, rfl⟩
      have Hcmp := Lib.hid (rcmp_any A3 m3 c3 ts B m d bs w2 hl3 (HB.out.below HS2.out) hb3 HbB.out (by omega) (by omega))
      rw [hcv] at Hcmp
      rw [Hv3.out, HY.out] at hcv
      clear hl3 hb3 hv3 hB3 HS HQ HR HbR HVr Hbit Hdbl Hv
      by_cases hc : Y ≤ 2 * (T % Y) + v
      · obtain ⟨d1, d2⟩ := div_one HY0.out hv1 hc
        rw [← HT.out] at d1 d2
        have p1 : 0 ≤ cv := by rw [← hcv]; exact cmpZ_nonneg hc
        have p2 : decide (0 ≤ cv) = true := by simp; exact p1
        have Hd1 := Lib.hid d1
        have Hd2 := Lib.hid d2
        have Hc := Lib.hid hc
        clear d1 d2 hc hcv
        go_wp2_with fail
        refine Hcmp.out.mono ?_
        rintro e w3 ⟨rfl, k, hw3⟩
        have hb : Below w2.heap.size w2 w3 := by rw [hw3]; exact below_drewN (Below.refl _ _) k
        have HS3 := Lib.hid (HS2.out.trans (hb.mono HS2.out.size))
        have HQ3 := Lib.hid (HQ2.out.below hb)
        have Hsub := Lib.hid (rsub_any A3 m3 c3 ts B m d bs w3 (H3.out.below hb) (HB.out.below HS3.out) HbB.out (by rw [Hv3.out, HY.out]; exact Hc.out) (by omega) (by omega))
        clear hw3 hb HS2 HQ2 H3 Hcmp
        go_wp2_with fail
        refine Hsub.out.mono ?_
        rintro e w4 ⟨A4, m4, c4, os, rfl, hm4, hl4, hb4, hv4, hB4⟩
        rw [Hv3.out, HY.out, ← Hd2.out] at hv4
        have HS4 := Lib.hid (HS3.out.trans (hB4.mono HS3.out.size))
        have Hdb2 := Lib.hid (rdouble_any A1 m1 c1 qs 1 w4 (HQ3.out.below hB4) HbQ.out (by decide) (by omega))
        rw [show ((1 : Nat) : Int) = 1 from rfl, HVq.out, ← Hd1.out] at Hdb2
        have H4 := Lib.hid hl4
        have Hb4 := Lib.hid hb4
        have Hv4 := Lib.hid hv4
        have g4 : m4 ≤ m := D.len_lt hb4 hl4.len (by rw [hv4]; exact Nat.lt_trans (Nat.mod_lt _ HY0.out) Hy.out)
        clear hl4 hb4 hv4 HS3 HQ3 Hsub Hb3 Hv3
        go_wp2_with fail
        refine Hdb2.out.mono ?_
        rintro e w5 ⟨A5, m5, c5, ps, rfl, hm5, hl5, hb5, hv5, hB5⟩
        have HS5 := Lib.hid (HS4.out.trans (hB5.mono HS4.out.size))
        have H5 := Lib.hid (H4.out.below hB5)
        have H6 := Lib.hid hl5
        have Hb6 := Lib.hid hb5
        have Hv6 := Lib.hid hv5
        have g5 : m5 ≤ n := D.len_lt hb5 hl5.len (by rw [hv5]; exact Nat.lt_of_le_of_lt (Nat.le_trans (Nat.div_le_self _ _) (Nat.div_le_self _ _)) Hx.out)
        clear hl5 hb5 hv5 hB5 HS4 H4 Hdb2 hB4 hm4 hm5 hm3 HVq HbQ
        go_wp2
        go_roundw
        case rel => exact ⟨i, m5, c5, m4, c4, A5, A4, ps, os, by omega, by go_num, rfl, rfl, g5, g4, H6, H5, Hb6, Hb4, Hv6, Hv4, HS5⟩
        case measure => simp [intOf]
      · obtain ⟨d1, d2⟩ := div_none HY0.out (show 2 * (T % Y) + v < Y by omega)
        rw [← HT.out] at d1 d2
        have p1 : cv = -1 := by rw [← hcv]; exact cmpZ_lt (by omega)
        subst p1
        rw [← d2] at Hv3
        have Hd1 := Lib.hid d1
        have g3 : m3 ≤ m := D.len_lt Hb3.out H3.out.len (by rw [Hv3.out]; exact Nat.lt_trans (Nat.mod_lt _ HY0.out) Hy.out)
        clear d1 d2 hc hcv
        go_wp2_with fail
        refine Hcmp.out.mono ?_
        rintro e w3 ⟨rfl, k, hw3⟩
        have hb : Below w2.heap.size w2 w3 := by rw [hw3]; exact below_drewN (Below.refl _ _) k
        have HS3 := Lib.hid (HS2.out.trans (hb.mono HS2.out.size))
        have H4 := Lib.hid (H3.out.below hb)
        have Hdb2 := Lib.hid (rdouble_any A1 m1 c1 qs 0 w3 (HQ2.out.below hb) HbQ.out (by decide) (by omega))
        rw [show ((0 : Nat) : Int) = 0 from rfl, HVq.out, ← Hd1.out] at Hdb2
        clear hw3 hb HS2 HQ2 H3 Hcmp
        go_wp2_with fail
        refine Hdb2.out.mono ?_
        rintro e w5 ⟨A5, m5, c5, ps, rfl, hm5, hl5, hb5, hv5, hB5⟩
        have HS5 := Lib.hid (HS3.out.trans (hB5.mono HS3.out.size))
        have H5 := Lib.hid (H4.out.below hB5)
        have H6 := Lib.hid hl5
        have Hb6 := Lib.hid hb5
        have Hv6 := Lib.hid hv5
        have g5 : m5 ≤ n := D.len_lt hb5 hl5.len (by rw [hv5]; exact Nat.lt_of_le_of_lt (Nat.le_trans (Nat.div_le_self _ _) (Nat.div_le_self _ _)) Hx.out)
        clear hl5 hb5 hv5 hB5 HS3 H4 Hdb2 hm5 hm3 HVq HbQ
        go_wp2
        go_roundw
        case rel => exact ⟨i, m5, c5, m3, c3, A5, A3, ps, ts, by omega, by go_num, rfl, rfl, g5, g3, H6, H5, Hb6, Hb3, Hv6, Hv3, HS5⟩
        case measure => simp [intOf]
    · obtain rfl : j = 0 := by omega
      have h1 := HVq.out
      have h2 := HVr.out
      rw [Nat.pow_zero, Nat.div_one] at h1 h2
      have Hfin : Hid (DTellsD w (X / Y) (X % Y) n m (.returned (.tuple #[.slice A1 m1 c1, .slice A2 m2 c2])) w1) := ⟨A1, m1, c1, qs, A2, m2, c2, rs, rfl, hm1, hm2, HQ.out, HR.out, HbQ.out, HbR.out, h1, h2, HS.out⟩
      clear h1 h2 HVq HVr
      go_wp2
      go_ret2
      exact Hfin.out
end Go.Proofs.YtkinflmfeamajaaDoor
