/- QRef, RMath, RRef, QMath, QDiv64, QRow, QDigit, QLong, QDiv, RtTo, RnMath, RnCut, RnTo, RnRef: joined. -/
import Derived.Test.YtijhdlkfihjbiaaGreatDoorK1
import Derived.BigQuiet
import Derived.Deep.CutBlock
import Derived.Deep.LoopGhost
import Derived.Deep.Light
import Derived.OwnWalk
import Derived.Test.YtijhdlkfihjbiaaGreatDoorK2
import Derived.Deep.Cut
/- The walk of planimeterref03.Div. -/
namespace Go.Proofs.YtijhdlkfihjbiaaGreatDoor
open Go.RowKit

/-- Two numbers in digits. -/
def DTellsD (w : World) (Q R L M : Nat) (e : Ending) (w' : World) : Prop :=
  ∃ A m c zs A' m' c' ys, e = .returned (.tuple #[.slice A m c, .slice A' m' c']) ∧ m ≤ L ∧ m' ≤ M ∧ Dig w' A m c zs ∧ Dig w' A' m' c' ys ∧ D.Bare zs ∧ D.Bare ys ∧ D.val zs = Q ∧ D.val ys = R ∧ Below w.heap.size w w'

/-- One bit more. -/
theorem bit_more (X i : Nat) : X / 2 ^ i = 2 * (X / 2 ^ (i + 1)) + X / 2 ^ i % 2 := by
  rw [Nat.pow_succ, ← Nat.div_div_eq_div_mul]
  omega
theorem div_one {T Y v : Nat} (hY : 0 < Y) (hv : v ≤ 1) (h : Y ≤ 2 * (T % Y) + v) : (2 * T + v) / Y = 2 * (T / Y) + 1 ∧ (2 * T + v) % Y = 2 * (T % Y) + v - Y := by
  have h1 := Nat.div_add_mod T Y
  have h2 := Nat.mod_lt T hY
  have e : 2 * T + v = (2 * (T % Y) + v - Y) + Y * (2 * (T / Y) + 1) := by
    have : Y * (2 * (T / Y) + 1) = 2 * (Y * (T / Y)) + Y := by rw [Nat.mul_add, Nat.mul_left_comm, Nat.mul_one]
    omega
  refine ⟨?_, ?_⟩
  · rw [e, Nat.add_mul_div_left _ _ hY, Nat.div_eq_of_lt (by omega), Nat.zero_add]
  · conv => lhs; rw [e]
    rw [Nat.add_mul_mod_self_left, Nat.mod_eq_of_lt (by omega)]
theorem div_none {T Y v : Nat} (hY : 0 < Y) (h : 2 * (T % Y) + v < Y) : (2 * T + v) / Y = 2 * (T / Y) + 0 ∧ (2 * T + v) % Y = 2 * (T % Y) + v := by
  have h1 := Nat.div_add_mod T Y
  have e : 2 * T + v = (2 * (T % Y) + v) + Y * (2 * (T / Y)) := by
    have : Y * (2 * (T / Y)) = 2 * (Y * (T / Y)) := Nat.mul_left_comm _ _ _
    omega
  refine ⟨?_, ?_⟩
  · rw [e, Nat.add_mul_div_left _ _ hY, Nat.div_eq_of_lt h, Nat.zero_add, Nat.add_zero]
  · conv => lhs; rw [e]
    rw [Nat.add_mul_mod_self_left, Nat.mod_eq_of_lt h]
theorem D.len_lt {zs : List Nat} (hb : D.Bare zs) {n M : Nat} (hl : zs.length = n) (h : D.val zs < D.pw M) : n ≤ M := by
  rcases Nat.lt_or_ge M n with h1 | h1
  · obtain ⟨j, hj⟩ : ∃ j, D.tl zs = j + 1 := ⟨D.tl zs - 1, by rw [hb]; omega⟩
    have h2 := D.val_pos_of_tl hj
    have h3 := D.pw_mono (show M ≤ j by rw [hb] at hj; omega)
    omega
  · exact h1

set_option maxHeartbeats 4000000 in
set_option maxRecDepth 100000 in
theorem rdiv_any (A : Option Addr) (n c : Nat) (us : List Nat) (B : Option Addr) (m d : Nat) (bs : List Nat) (w : World) (hA : Dig w A n c us) (hB : Dig w B m d bs) (ba : D.Bare us) (bb : D.Bare bs) (hn : n ≤ 100000) (hm : m ≤ 100000) (h0 : D.val bs ≠ 0) :
    Calls Tryz.prog 69 #[.slice A n c, .slice B m d] w (DTellsD w (D.val us / D.val bs) (D.val us % D.val bs) n m) := by
  have HA := Lib.hid hA
  have HB := Lib.hid hB
  have HbB := Lib.hid bb
  have hx := D.val_lt hA.words
  have hy := D.val_lt hB.words
  rw [hA.len] at hx
  rw [hB.len] at hy
  obtain ⟨bl, hbl⟩ : ∃ bl, blen (D.val us) = bl := ⟨_, rfl⟩
  have hblb : bl ≤ 16 * n := by
    rw [← hbl]; apply blen_le_iff.2
    rw [← D.pw_two]; exact hx
  have Hbits := Lib.hid (rbits_any A n c us w hA ba (by omega))
  rw [hbl] at Hbits
  obtain ⟨X, hX⟩ : ∃ X, D.val us = X := ⟨_, rfl⟩
  obtain ⟨Y, hY⟩ : ∃ Y, D.val bs = Y := ⟨_, rfl⟩
  rw [hX] at hx hbl ⊢
  rw [hY] at hy h0 ⊢
  have HX := Lib.hid hX
  have HY := Lib.hid hY
  have Hx := Lib.hid hx
  have Hy := Lib.hid hy
  have HY0 : Hid (0 < Y) := Nat.pos_of_ne_zero h0
  have Hst : Hid (X / 2 ^ bl = 0) := by
    rw [← hbl]; exact Nat.div_eq_of_lt (lt_blen X)
  clear hA hB ba bb hx hy hbl hX hY h0
  go_enter Tryz.func69, Tryz.ntmps69
  go_wp2_with fail
  refine Hbits.out.mono ?_
  rintro e w' ⟨rfl, rfl⟩
  go_wp2_with fail
  go_loopw [6, 7, 8] (fun s6 s7 i wr => ∃ (j m1 c1 m2 c2 : Nat) (A1 A2 : Option Addr) (qs rs : List Nat), j ≤ bl ∧ i = .int .i64 ((j : Int) - 1) ∧ s6 = .slice A1 m1 c1 ∧ s7 = .slice A2 m2 c2 ∧ m1 ≤ n ∧ m2 ≤ m ∧ Hid (Dig wr A1 m1 c1 qs) ∧ Hid (Dig wr A2 m2 c2 rs) ∧ Hid (D.Bare qs) ∧ Hid (D.Bare rs) ∧ Hid (D.val qs = X / 2 ^ j / Y) ∧ Hid (D.val rs = X / 2 ^ j % Y) ∧ Hid (Below w.heap.size w wr)) (fun _ _ i _ => (intOf i + 1).toNat)
  case atStart => exact ⟨bl, 0, 0, 0, 0, none, none, [], [], Nat.le_refl _, by go_num, rfl, rfl, Nat.zero_le _, Nat.zero_le _, Dig.nil _ _ _, Dig.nil _ _ _, rfl, rfl, by rw [Hst.out, Nat.zero_div]; rfl, by rw [Hst.out, Nat.zero_mod]; rfl, Below.refl _ _⟩
  case round =>
    obtain ⟨w1, rfl⟩ : ∃ w1, w1 = wr := ⟨_, rfl⟩
    obtain ⟨j, m1, c1, m2, c2, A1, A2, qs, rs, hj, rfl, rfl, rfl, hm1, hm2, HQ, HR, HbQ, HbR, HVq, HVr, HS⟩ := hrel
    by_cases hj0 : 0 < j
    · obtain ⟨i, rfl⟩ : ∃ i, j = i + 1 := ⟨j - 1, by omega⟩
      obtain ⟨v, hv⟩ : ∃ v, X / 2 ^ i % 2 = v := ⟨_, rfl⟩
      have hv1 : v ≤ 1 := by omega
      have Hv : Hid (D.val us / 2 ^ i % 2 = v) := by rw [HX.out]; exact hv
      have hT := bit_more X i
      rw [hv] at hT
      obtain ⟨T, hTe⟩ : ∃ T, X / 2 ^ (i + 1) = T := ⟨_, rfl⟩
      rw [hTe] at hT HVq HVr
      have HT := Lib.hid hT
      have Hbit := Lib.hid (rbit_any v A n c us i w1 (HA.out.below HS.out) (by omega) (by omega) Hv)
      have Hdbl := Lib.hid (rdouble_any A2 m2 c2 rs v w1 HR.out HbR.out hv1 (by omega))
      have e1 : ((i + 1 : Nat) : Int) - 1 = (i : Int) := by omega
      rw [e1]
      clear hv hT hTe e1 hj0
      go_wp2_with fail
      refine Hbit.out.mono ?_
      rintro e w' ⟨rfl, rfl⟩
      go_wp2_with fail
      refine Hdbl.out.mono ?_
      rintro e w2 ⟨A3, m3, c3, ts, rfl, hm3, hl3, hb3, hv3, hB3⟩
      rw [HVr.out] at hv3
      have HS2 := Lib.hid (HS.out.trans (hB3.mono HS.out.size))
      have HQ2 := Lib.hid (HQ.out.below hB3)
      have H3 := Lib.hid hl3
      have Hb3 := Lib.hid hb3
      have Hv3 := Lib.hid hv3
      obtain ⟨cv, hcv⟩ : ∃ cv, cmpZ (D.val ts) (D.val bs) = cv := ⟨_, rfl⟩
      have Hcmp := Lib.hid (rcmp_any A3 m3 c3 ts B m d bs w2 hl3 (HB.out.below HS2.out) hb3 HbB.out (by omega) (by omega))
      rw [hcv] at Hcmp
      rw [Hv3.out, HY.out] at hcv
      clear hl3 hb3 hv3 hB3 HS HQ HR HbR HVr Hbit Hdbl Hv
      by_cases hc : Y ≤ 2 * (T % Y) + v
      · obtain ⟨d1, d2⟩ := div_one HY0.out hv1 hc
        rw [← HT.out] at d1 d2
        have p1 : 0 ≤ cv := by rw [← hcv]; exact cmpZ_nonneg hc
        have p2 : decide (0 ≤ cv) = true := by simp; exact p1
        have Hd1 := Lib.hid d1
        have Hd2 := Lib.hid d2
        have Hc := Lib.hid hc
        clear d1 d2 hc hcv
        go_wp2_with fail
        refine Hcmp.out.mono ?_
        rintro e w3 ⟨rfl, k, hw3⟩
        have hb : Below w2.heap.size w2 w3 := by rw [hw3]; exact below_drewN (Below.refl _ _) k
        have HS3 := Lib.hid (HS2.out.trans (hb.mono HS2.out.size))
        have HQ3 := Lib.hid (HQ2.out.below hb)
        have Hsub := Lib.hid (rsub_any A3 m3 c3 ts B m d bs w3 (H3.out.below hb) (HB.out.below HS3.out) HbB.out (by rw [Hv3.out, HY.out]; exact Hc.out) (by omega) (by omega))
        clear hw3 hb HS2 HQ2 H3 Hcmp
        go_wp2_with fail
        refine Hsub.out.mono ?_
        rintro e w4 ⟨A4, m4, c4, os, rfl, hm4, hl4, hb4, hv4, hB4⟩
        rw [Hv3.out, HY.out, ← Hd2.out] at hv4
        have HS4 := Lib.hid (HS3.out.trans (hB4.mono HS3.out.size))
        have Hdb2 := Lib.hid (rdouble_any A1 m1 c1 qs 1 w4 (HQ3.out.below hB4) HbQ.out (by decide) (by omega))
        rw [show ((1 : Nat) : Int) = 1 from rfl, HVq.out, ← Hd1.out] at Hdb2
        have H4 := Lib.hid hl4
        have Hb4 := Lib.hid hb4
        have Hv4 := Lib.hid hv4
        have g4 : m4 ≤ m := D.len_lt hb4 hl4.len (by rw [hv4]; exact Nat.lt_trans (Nat.mod_lt _ HY0.out) Hy.out)
        clear hl4 hb4 hv4 HS3 HQ3 Hsub Hb3 Hv3
        go_wp2_with fail
        refine Hdb2.out.mono ?_
        rintro e w5 ⟨A5, m5, c5, ps, rfl, hm5, hl5, hb5, hv5, hB5⟩
        have HS5 := Lib.hid (HS4.out.trans (hB5.mono HS4.out.size))
        have H5 := Lib.hid (H4.out.below hB5)
        have H6 := Lib.hid hl5
        have Hb6 := Lib.hid hb5
        have Hv6 := Lib.hid hv5
        have g5 : m5 ≤ n := D.len_lt hb5 hl5.len (by rw [hv5]; exact Nat.lt_of_le_of_lt (Nat.le_trans (Nat.div_le_self _ _) (Nat.div_le_self _ _)) Hx.out)
        clear hl5 hb5 hv5 hB5 HS4 H4 Hdb2 hB4 hm4 hm5 hm3 HVq HbQ
        go_wp2
        go_roundw
        case rel => exact ⟨i, m5, c5, m4, c4, A5, A4, ps, os, by omega, by go_num, rfl, rfl, g5, g4, H6, H5, Hb6, Hb4, Hv6, Hv4, HS5⟩
        case measure => simp [intOf]
      · obtain ⟨d1, d2⟩ := div_none HY0.out (show 2 * (T % Y) + v < Y by omega)
        rw [← HT.out] at d1 d2
        have p1 : cv = -1 := by rw [← hcv]; exact cmpZ_lt (by omega)
        subst p1
        rw [← d2] at Hv3
        have Hd1 := Lib.hid d1
        have g3 : m3 ≤ m := D.len_lt Hb3.out H3.out.len (by rw [Hv3.out]; exact Nat.lt_trans (Nat.mod_lt _ HY0.out) Hy.out)
        clear d1 d2 hc hcv
        go_wp2_with fail
        refine Hcmp.out.mono ?_
        rintro e w3 ⟨rfl, k, hw3⟩
        have hb : Below w2.heap.size w2 w3 := by rw [hw3]; exact below_drewN (Below.refl _ _) k
        have HS3 := Lib.hid (HS2.out.trans (hb.mono HS2.out.size))
        have H4 := Lib.hid (H3.out.below hb)
        have Hdb2 := Lib.hid (rdouble_any A1 m1 c1 qs 0 w3 (HQ2.out.below hb) HbQ.out (by decide) (by omega))
        rw [show ((0 : Nat) : Int) = 0 from rfl, HVq.out, ← Hd1.out] at Hdb2
        clear hw3 hb HS2 HQ2 H3 Hcmp
        go_wp2_with fail
        refine Hdb2.out.mono ?_
        rintro e w5 ⟨A5, m5, c5, ps, rfl, hm5, hl5, hb5, hv5, hB5⟩
        have HS5 := Lib.hid (HS3.out.trans (hB5.mono HS3.out.size))
        have H5 := Lib.hid (H4.out.below hB5)
        have H6 := Lib.hid hl5
        have Hb6 := Lib.hid hb5
        have Hv6 := Lib.hid hv5
        have g5 : m5 ≤ n := D.len_lt hb5 hl5.len (by rw [hv5]; exact Nat.lt_of_le_of_lt (Nat.le_trans (Nat.div_le_self _ _) (Nat.div_le_self _ _)) Hx.out)
        clear hl5 hb5 hv5 hB5 HS3 H4 Hdb2 hm5 hm3 HVq HbQ
        go_wp2
        go_roundw
        case rel => exact ⟨i, m5, c5, m3, c3, A5, A3, ps, ts, by omega, by go_num, rfl, rfl, g5, g3, H6, H5, Hb6, Hb3, Hv6, Hv3, HS5⟩
        case measure => simp [intOf]
    · obtain rfl : j = 0 := by omega
      have h1 := HVq.out
      have h2 := HVr.out
      rw [Nat.pow_zero, Nat.div_one] at h1 h2
      have Hfin : Hid (DTellsD w (X / Y) (X % Y) n m (.returned (.tuple #[.slice A1 m1 c1, .slice A2 m2 c2])) w1) := ⟨A1, m1, c1, qs, A2, m2, c2, rs, rfl, hm1, hm2, HQ.out, HR.out, HbQ.out, HbR.out, h1, h2, HS.out⟩
      clear h1 h2 HVq HVr
      go_wp2
      go_ret2
      exact Hfin.out
end Go.Proofs.YtijhdlkfihjbiaaGreatDoor
/- The arithmetic of roots: the greatest number whose k-th power is at most a; Newton's step; roots of roots. -/
namespace Go.Proofs.YtijhdlkfihjbiaaGreatDoor

/-- The greatest of 0 .. n whose k-th power is at most a. -/
def rtUp (k a : Nat) : Nat → Nat
  | 0 => 0
  | n + 1 => if (n + 1) ^ k ≤ a then n + 1 else rtUp k a n
/-- The k-th root without what is behind the point. -/
def rt (k a : Nat) : Nat := rtUp k a a
/-- A number above the root, by the root of the upper half. -/
def start (k a h : Nat) : Nat := (rt k (a / 2 ^ (h * k)) + 1) * 2 ^ h
/-- Is it a k-th power? -/
def Ex (k a : Nat) : Prop := rt k a ^ k = a
instance (k a : Nat) : Decidable (Ex k a) := inferInstanceAs (Decidable (_ = _))
end Go.Proofs.YtijhdlkfihjbiaaGreatDoor
/- The walks of planimeterref04.Above and planimeterref04.Root: the document's root, bit by bit. -/
namespace Go.Proofs.YtijhdlkfihjbiaaGreatDoor
open Go.RowKit

end Go.Proofs.YtijhdlkfihjbiaaGreatDoor
/- Plain mathematics of quotients: half a digit of 128 bits by 64, a digit of a long quotient. No program is named here. -/
namespace Go.Proofs.YtijhdlkfihjbiaaGreatDoor

/-- The test of a guessed half digit. -/
theorem half_le {q r u v y1 y0 : Nat} (h : q * y1 + r = u) : q * (y1 * 4294967296 + y0) ≤ u * 4294967296 + v ↔ q * y0 ≤ 4294967296 * r + v := by
  have e : q * (y1 * 4294967296 + y0) = q * y1 * 4294967296 + q * y0 := by rw [Nat.mul_add, Nat.mul_assoc]
  rw [e]
  generalize q * y1 = P at h ⊢
  generalize q * y0 = S
  omega
theorem half_big {q u v Y : Nat} (hq : 4294967296 ≤ q) (hu : u < Y) (hv : v < 4294967296) : u * 4294967296 + v < q * Y := by
  have h1 : 4294967296 * Y ≤ q * Y := Nat.mul_le_mul_right _ hq
  omega
theorem half_break {q r u v y1 y0 : Nat} (h : q * y1 + r = u) (hr : 4294967296 ≤ r) (hu : u < y1 * 4294967296 + y0) (hy : y0 < 4294967296) : q * y0 ≤ 4294967296 * r + v := by
  have h1 : q < 4294967296 := by
    rcases Nat.lt_or_ge q 4294967296 with h' | h'
    · exact h'
    · have : 4294967296 * y1 ≤ q * y1 := Nat.mul_le_mul_right _ h'
      omega
  have h2 : q * y0 ≤ 4294967296 * 4294967296 := Nat.mul_le_mul (by omega) (by omega)
  omega
/-- What is not too great is the quotient. -/
theorem quot_eq {q N Y : Nat} (hle : q * Y ≤ N) (hge : N / Y ≤ q) (hY : 0 < Y) : q = N / Y := by
  have := (Nat.le_div_iff_mul_le hY).2 hle
  omega
theorem quot_less {q N Y : Nat} (h : N < q * Y) (hY : 0 < Y) : N / Y < q := (Nat.div_lt_iff_lt_mul hY).2 h

/-- The divisor with its top bit set, and what is divided, moved likewise. -/
theorem norm_parts {hi lo y s : Nat} (hs : s + blen y = 64) (hy : y ≠ 0) (hh : hi < y) (hl : lo < 18446744073709551616) :
    y * 2 ^ s < 18446744073709551616 ∧ 9223372036854775808 ≤ y * 2 ^ s ∧ hi * 2 ^ s < 18446744073709551616 ∧ lo / 2 ^ (64 - s) < 2 ^ s ∧ hi * 2 ^ s + lo / 2 ^ (64 - s) < y * 2 ^ s ∧
    (hi * 18446744073709551616 + lo) * 2 ^ s = (hi * 2 ^ s + lo / 2 ^ (64 - s)) * 18446744073709551616 + lo * 2 ^ s % 18446744073709551616 := by
  have hb1 := blen_pos hy
  have h64 : (18446744073709551616 : Nat) = 2 ^ s * 2 ^ (64 - s) := by rw [← Nat.pow_add, show s + (64 - s) = 64 from by omega]
  have hp := Nat.pow_pos (n := s) (show 0 < 2 by decide)
  have h1 : y * 2 ^ s < 18446744073709551616 := by
    have := Nat.mul_lt_mul_of_pos_right (lt_blen y) hp
    rw [← Nat.pow_add, show blen y + s = 64 from by omega] at this
    exact this
  have h2 : 9223372036854775808 ≤ y * 2 ^ s := by
    have := Nat.mul_le_mul_right (2 ^ s) (blen_le hy)
    rw [← Nat.pow_add, show blen y - 1 + s = 63 from by omega] at this
    exact this
  have h3 : hi * 2 ^ s + 2 ^ s ≤ y * 2 ^ s := by
    have := Nat.mul_le_mul_right (2 ^ s) hh
    rw [Nat.succ_mul] at this
    exact this
  have h4 : lo / 2 ^ (64 - s) < 2 ^ s := by
    rw [Nat.div_lt_iff_lt_mul (Nat.pow_pos (by decide)), ← h64]; exact hl
  refine ⟨h1, h2, by omega, h4, by omega, ?_⟩
  have h5 : lo * 2 ^ s = lo / 2 ^ (64 - s) * 18446744073709551616 + lo * 2 ^ s % 18446744073709551616 := by
    have e := Nat.div_add_mod (lo * 2 ^ s) 18446744073709551616
    have e2 : lo * 2 ^ s / 18446744073709551616 = lo / 2 ^ (64 - s) := by
      rw [h64, Nat.mul_comm lo, Nat.mul_div_mul_left _ _ hp]
    rw [e2] at e
    omega
  rw [Nat.add_mul, Nat.add_mul, Nat.mul_right_comm]
  omega
/-- Both half digits together (T: 2 to the shift). -/
theorem halves_x {N X L un1 un0 r1 r0 P1 P0 : Nat} (hN : N = X * 4294967296 + L) (hL : L = un1 * 4294967296 + un0) (h1 : X + un1 = P1 + r1) (h0 : r1 * 4294967296 + un0 = P0 + r0) : N = P1 * 4294967296 + P0 + r0 := by
  rw [hN, hL, ← Nat.add_assoc, ← Nat.add_mul, h1, Nat.add_mul, Nat.add_assoc, h0, ← Nat.add_assoc]
theorem halves_e {N u L un1 un0 r1 r0 P1 P0 : Nat} (hN : N = u * 18446744073709551616 + L) (hL : L = un1 * 4294967296 + un0) (h1 : u * 4294967296 + un1 = P1 + r1) (h0 : r1 * 4294967296 + un0 = P0 + r0) : N = P1 * 4294967296 + P0 + r0 :=
  halves_x (X := u * 4294967296) (by rw [hN, Nat.mul_assoc]) hL h1 h0
theorem halves {U y T Y u L un1 un0 q1 r1 q0 r0 q r : Nat} (hp : 0 < T) (hY : Y = y * T) (hN : U * T = u * 18446744073709551616 + L) (hL : L = un1 * 4294967296 + un0) (h1 : u * 4294967296 + un1 = q1 * Y + r1) (h0 : r1 * 4294967296 + un0 = q0 * Y + r0) (hr0 : r0 < Y)
    (hq : U = q * y + r) (hr : r < y) : q1 * 4294967296 + q0 = q ∧ r0 / T = r := by
  have e1 : U * T = (q1 * 4294967296 + q0) * Y + r0 := by
    rw [halves_e hN hL h1 h0, Nat.add_mul, Nat.mul_right_comm q1]
  have e2 : U * T = q * Y + r * T := by rw [hq, hY, Nat.add_mul, Nat.mul_assoc]
  have hr2 : r * T < Y := by rw [hY]; exact Nat.mul_lt_mul_of_pos_right hr hp
  have hY0 : 0 < Y := Nat.lt_of_le_of_lt (Nat.zero_le _) hr0
  have d1 : U * T / Y = q1 * 4294967296 + q0 := by
    rw [e1, Nat.add_comm, Nat.add_mul_div_right _ _ hY0, Nat.div_eq_of_lt hr0, Nat.zero_add]
  have d2 : U * T / Y = q := by
    rw [e2, Nat.add_comm, Nat.add_mul_div_right _ _ hY0, Nat.div_eq_of_lt hr2, Nat.zero_add]
  have d3 : q1 * 4294967296 + q0 = q := d1.symm.trans d2
  refine ⟨d3, ?_⟩
  rw [d3, e2] at e1
  have : r0 = r * T := (Nat.add_left_cancel e1).symm
  rw [this, Nat.mul_div_cancel _ hp]

/-- The guess by the top limbs is not too small. -/
theorem guess_ge {lo hi P v W V : Nat} (hW : W = lo + P * hi) (hlo : lo < P) (hV : P * v ≤ V) (hv : 0 < v) : W / V ≤ hi / v := by
  have hP : 0 < P := by omega
  have hV0 : 0 < V := Nat.lt_of_lt_of_le (Nat.mul_pos hP hv) hV
  rw [Nat.le_div_iff_mul_le hv]
  have h1 := Nat.div_mul_le_self W V
  have h2 : W / V * (P * v) ≤ W := Nat.le_trans (Nat.mul_le_mul_left _ hV) h1
  have e : W / V * (P * v) = P * (W / V * v) := by rw [Nat.mul_left_comm]
  rw [e] at h2
  have h3 : P * (W / V * v) < P * (hi + 1) := by rw [Nat.mul_add, Nat.mul_one]; omega
  have := Nat.lt_of_mul_lt_mul_left h3
  omega
/-- One limb of a multiple taken away. -/
theorem take_step {x N h l ow s1 t1 y s2 t2 k Z U T V : Nat} (hp : l + 18446744073709551616 * h = x * N) (h1 : s1 + 18446744073709551616 * t1 = l + ow + 0) (h2 : s2 + s1 + 0 = y + 18446744073709551616 * t2)
    (hset : U + pw k * y = Z + pw k * s2) (hE : Z + N * T = V + pw k * ow) : U + N * (T + pw k * x) = V + pw (k + 1) * (h + t1 + t2) := by
  have e : pw (k + 1) * (h + t1 + t2) = pw k * (18446744073709551616 * (h + t1 + t2)) := by rw [pw_succ, Nat.mul_comm 18446744073709551616, Nat.mul_assoc]
  have e2 : pw k * (s2 + x * N + ow) = pw k * (y + 18446744073709551616 * (h + t1 + t2)) := by congr 1; omega
  rw [Nat.mul_add, Nat.mul_add, Nat.mul_add (pw k) y] at e2
  have e3 : N * (T + pw k * x) = N * T + pw k * (x * N) := by rw [Nat.mul_add, Nat.mul_left_comm, Nat.mul_comm N x]
  rw [e, e3]
  omega
/-- The last limb of it. -/
theorem take_last {ow y s t k Z U T V : Nat} (h2 : s + ow + 0 = y + 18446744073709551616 * t) (hset : U + pw k * y = Z + pw k * s) (hE : Z + T = V + pw k * ow) : U + T = V + pw (k + 1) * t := by
  have e : pw (k + 1) * t = pw k * (18446744073709551616 * t) := by rw [pw_succ, Nat.mul_comm 18446744073709551616, Nat.mul_assoc]
  have e2 : pw k * (s + ow) = pw k * (y + 18446744073709551616 * t) := by congr 1
  rw [Nat.mul_add, Nat.mul_add] at e2
  omega
/-- What is owed fits. -/
theorem owed_lt {x N h l ow s1 t1 y s2 t2 : Nat} (hx : x < 18446744073709551616) (hN : N < 18446744073709551616) (how : ow < 18446744073709551616) (hp : l + 18446744073709551616 * h = x * N) (h1 : s1 + 18446744073709551616 * t1 = l + ow + 0) (h2 : s2 + s1 + 0 = y + 18446744073709551616 * t2) (hs2 : s2 < 18446744073709551616) :
    h + t1 < 18446744073709551616 ∧ h + t1 + t2 < 18446744073709551616 := by
  have h3 : x * N ≤ 18446744073709551615 * 18446744073709551615 := Nat.mul_le_mul (by omega) (by omega)
  generalize x * N = p at hp h3
  omega
end Go.Proofs.YtijhdlkfihjbiaaGreatDoor
/- The walks of math/bits.LeadingZeros64 and of math/bits.Div64. -/
namespace Go.Proofs.YtijhdlkfihjbiaaGreatDoor
open Go.RowKit

theorem leadz_any (x s : Nat) (w : World) (hx : x < 18446744073709551616) (hs : Hid (s + blen x = 64)) :
    Calls Tryz.prog 108 #[.int .u64 (x : Int)] w fun e w' => e = .returned (.int .i64 (s : Int)) ∧ w = w' := by
  have hL := len_any x w hx
  have h1 := hs.out
  generalize blen x = b at hL h1
  have HL := Lib.hid hL
  have e1 : (64 : Int) - (b : Int) = (s : Int) := by omega
  have h2 : b ≤ 64 := by omega
  clear hL h1 hs
  go_enter Tryz.func108, Tryz.ntmps108
  go_wp2_with fail
  refine HL.out.mono ?_
  rintro e w' ⟨rfl, rfl⟩
  go_wp2
  go_ret
  exact ⟨rfl, rfl⟩

theorem ret_two {a b c d : Int} (h1 : a = c) (h2 : b = d) : Ending.returned (.tuple #[.int .u64 a, .int .u64 b]) = .returned (.tuple #[.int .u64 c, .int .u64 d]) := by rw [h1, h2]

theorem div64_low (lo y q r : Nat) (w : World) (hlo : lo < 18446744073709551616) (hy : y < 18446744073709551616) (hr : r < y) (hq : Hid (lo = q * y + r)) :
    Calls Tryz.prog 107 #[.int .u64 0, .int .u64 (lo : Int), .int .u64 (y : Int)] w fun e w' => e = .returned (.tuple #[.int .u64 (q : Int), .int .u64 (r : Int)]) ∧ ∃ k, w' = w.drewN k := by
  have hy0 : 0 < y := by omega
  have e1 : (lo : Int) / (y : Int) = (q : Int) := by
    have : lo / y = q := by rw [hq.out, Nat.add_comm, Nat.add_mul_div_right _ _ hy0, Nat.div_eq_of_lt hr, Nat.zero_add]
    rw [← this]; simp
  have e2 : (lo : Int) % (y : Int) = (r : Int) := by
    have : lo % y = r := by rw [hq.out, Nat.add_comm, Nat.add_mul_mod_self_right, Nat.mod_eq_of_lt hr]
    rw [← this]; simp
  have b1 : ((y : Int) == 0) = false := beq_eq_false_iff_ne.2 (by omega)
  have b2 : decide ((y : Int) ≤ 0) = false := by simp; omega
  have b3 : decide (y ≤ 0) = false := by simp; omega
  have b4 : (y : Int) ≠ 0 := by omega
  have hq2 : q < 18446744073709551616 := by
    have h1 := hq.out
    have h2 : q * 1 ≤ q * y := Nat.mul_le_mul_left _ hy0
    omega
  have HE := Lib.hid (And.intro (wrapN q hq2) e2)
  clear hq
  go_enter Tryz.func107, Tryz.ntmps107
  go_wp2
  go_quiet (fail)
  go_wp2
  go_ret2
  exact ⟨ret_two rfl HE.out.2, _, rfl⟩

set_option maxHeartbeats 2000000 in
set_option maxRecDepth 100000 in
theorem div64_high (hi lo y q r s : Nat) (w : World) (hhi : hi < y) (hh0 : 0 < hi) (hlo : lo < 18446744073709551616) (hy : y < 18446744073709551616) (hr : r < y) (hq : Hid (hi * 18446744073709551616 + lo = q * y + r)) (hs : Hid (s + blen y = 64)) :
    Calls Tryz.prog 107 #[.int .u64 (hi : Int), .int .u64 (lo : Int), .int .u64 (y : Int)] w fun e w' => e = .returned (.tuple #[.int .u64 (q : Int), .int .u64 (r : Int)]) ∧ ∃ k, w' = w.drewN k := by
  have hs64 : s ≤ 63 := by have := blen_pos (show y ≠ 0 by omega); have := hs.out; omega
  obtain ⟨n1, n2, n3, n4, n5, n6⟩ := norm_parts hs.out (show y ≠ 0 by omega) hhi hlo
  have Hlead := Lib.hid (leadz_any y s w hy hs)
  have e0 : IntKind.u64.wrap (64 - (s : Int)) = ((64 - s : Nat) : Int) := by rw [IntKind.wrap_u64]; omega
  have eY : IntKind.u64.wrap ((y : Int) * 2 ^ s) = ((y * 2 ^ s : Nat) : Int) := by rw [← wrapN _ n1]; simp
  have eU : bits BinOp.or IntKind.u64 (IntKind.u64.wrap ((hi : Int) * 2 ^ s)) ((lo : Int) / 2 ^ (64 - s)) = ((hi * 2 ^ s + lo / 2 ^ (64 - s) : Nat) : Int) := by
    have a1 : IntKind.u64.wrap ((hi : Int) * 2 ^ s) = ((hi * 2 ^ s : Nat) : Int) := by rw [← wrapN _ n3]; simp
    have a2 : (lo : Int) / 2 ^ (64 - s) = ((lo / 2 ^ (64 - s) : Nat) : Int) := by simp
    rw [a1, a2, bits_or_u64_nat _ _ n3 (by omega), ← Nat.shiftLeft_eq, ← Nat.shiftLeft_add_eq_or_of_lt n4, Nat.shiftLeft_eq]
  have eL : IntKind.u64.wrap ((lo : Int) * 2 ^ s) = ((lo * 2 ^ s % 18446744073709551616 : Nat) : Int) := by rw [← wrapM]; simp
  have HY : Hid (∃ Y, y * 2 ^ s = Y) := ⟨_, rfl⟩
  have hLb : lo * 2 ^ s % 18446744073709551616 < 18446744073709551616 := Nat.mod_lt _ (by decide)
  have HP : Hid (0 < 2 ^ s) := Nat.pow_pos (by decide)
  generalize hYe : y * 2 ^ s = Y at n1 n2 n5 eY
  generalize hi * 2 ^ s + lo / 2 ^ (64 - s) = u at n5 n6 eU
  generalize lo * 2 ^ s % 18446744073709551616 = L at n6 eL hLb
  have HN := Lib.hid n6
  have HYe := Lib.hid hYe
  clear n3 n4 n6 hYe
  obtain ⟨y1, y0, hy1, hy0⟩ : ∃ y1 y0, Y = y1 * 4294967296 + y0 ∧ y0 < 4294967296 := ⟨Y / 4294967296, Y % 4294967296, by omega, by omega⟩
  obtain ⟨u1, u0, hu1, hu0⟩ : ∃ u1 u0, L = u1 * 4294967296 + u0 ∧ u0 < 4294967296 := ⟨L / 4294967296, L % 4294967296, by omega, by omega⟩
  have f1 : (Y : Int) / 4294967296 = (y1 : Int) := by omega
  have f2 : bits BinOp.and IntKind.u64 (Y : Int) 4294967295 = (y0 : Int) := by rw [maskN _ n1]; omega
  have f3 : (L : Int) / 4294967296 = (u1 : Int) := by omega
  have f4 : bits BinOp.and IntKind.u64 (L : Int) 4294967295 = (u0 : Int) := by rw [maskN _ hLb]; omega
  have b1 : ((y : Int) == 0) = false := beq_eq_false_iff_ne.2 (by omega)
  have b2 : decide ((y : Int) ≤ (hi : Int)) = false := by simp; omega
  have b3 : ((hi : Int) == 0) = false := beq_eq_false_iff_ne.2 (by omega)
  have g1 : 2147483648 ≤ y1 := by omega
  have g2 : y1 < 4294967296 := by omega
  have g3 : u1 < 4294967296 := by omega
  have Hy1 := Lib.hid hy1
  have Hu1 := Lib.hid hu1
  clear hy1 hu1
  obtain ⟨Q1, hQ1⟩ : ∃ Q, Q = (u * 4294967296 + u1) / Y := ⟨_, rfl⟩
  obtain ⟨r1, hr1⟩ : ∃ r, r = (u * 4294967296 + u1) % Y := ⟨_, rfl⟩
  have HR1 : Hid (u * 4294967296 + u1 = Q1 * Y + r1) := by rw [hQ1, hr1]; exact (Nat.div_add_mod' _ _).symm
  have hr1b : r1 < Y := by rw [hr1]; exact Nat.mod_lt _ (by omega)
  have hQ1b : Q1 < 4294967296 := by rw [hQ1]; exact quot_less (by omega) (by omega)
  have HQ1 := Lib.hid hQ1
  obtain ⟨Q0, hQ0⟩ : ∃ Q, Q = (r1 * 4294967296 + u0) / Y := ⟨_, rfl⟩
  obtain ⟨r0, hr0⟩ : ∃ r, r = (r1 * 4294967296 + u0) % Y := ⟨_, rfl⟩
  have HR0 : Hid (r1 * 4294967296 + u0 = Q0 * Y + r0) := by rw [hQ0, hr0]; exact (Nat.div_add_mod' _ _).symm
  have hr0b : r0 < Y := by rw [hr0]; exact Nat.mod_lt _ (by omega)
  have hQ0b : Q0 < 4294967296 := by rw [hQ0]; exact quot_less (by omega) (by omega)
  have HQ0 := Lib.hid hQ0
  have Hend : Hid (Q1 * 4294967296 + Q0 = q ∧ r0 / 2 ^ s = r) := halves HP.out HYe.out.symm HN.out Hu1.out HR1.out HR0.out hr0b hq.out hr
  clear hQ1 hr1 hQ0 hr0 HY
  obtain ⟨qa, ra, pa, hqp, hqe, hra, hqd⟩ : ∃ qa ra pa : Nat, qa * y1 = pa ∧ pa + ra = u ∧ ra < y1 ∧ u / y1 = qa := ⟨u / y1, u % y1, u / y1 * y1, rfl, Nat.div_add_mod' _ _, Nat.mod_lt _ (by omega), rfl⟩
  have e1 : (u : Int) / (y1 : Int) = (qa : Int) := by rw [← hqd]; simp
  have e2 : (qa : Int) * (y1 : Int) = (pa : Int) := by rw [← hqp]; simp
  have e3 : (u : Int) - (pa : Int) = (ra : Int) := by omega
  have Hqa : Hid (qa * y1 + ra = u) := by rw [hqp]; exact hqe
  have Hqb : Hid (Q1 ≤ qa) := by
    rw [HQ1.out, ← hqd]
    have h := guess_ge (lo := u1) (hi := u) (P := 4294967296) (v := y1) (W := u * 4294967296 + u1) (V := Y) (by omega) (by omega) (by have := Hy1.out; omega) (by omega)
    exact h
  have hqa : qa ≤ 8589934592 := by
    rw [← hqd]
    have : u / y1 ≤ u / 2147483648 := Nat.div_le_div_left g1 (by decide)
    omega
  have hra : ra < 4294967296 := by omega
  have hpab : pa < 18446744073709551616 := by omega
  clear hqp hqe hqd
  go_enter Tryz.func107, Tryz.ntmps107
  go_upto_block 0 with (go_at_call 108; refine Hlead.out.mono ?_; rintro e w' ⟨rfl, rfl⟩)
  clear f1 f2 f3 f4 e0 eY eU eL b1 b2 b3
  go_cut [15, 16] from 19 (fun s15 s16 w' => s15 = .int .u64 (Q1 : Int) ∧ (∃ z, s16 = .int .u64 z) ∧ w' = w)
  case first =>
    go_wp2_with fail
    go_loopg [15, 16] qa (fun g a b wx => wx = w ∧ ∃ qa ra : Nat, qa = g ∧ a = .int .u64 qa ∧ b = .int .u64 ra ∧ ra < 4294967296 ∧ qa ≤ 8589934592 ∧ Hid (qa * y1 + ra = u) ∧ Hid (Q1 ≤ qa))
    case atStart => exact ⟨rfl, _, _, rfl, rfl, rfl, hra, hqa, Hqa, Hqb⟩
    case round =>
      clear e1 e2 e3 hqa hra Hqa Hqb
      obtain ⟨rfl, qa, ra, rfl, rfl, rfl, hra, hqa, HE, HG⟩ := hrel
      obtain ⟨p, hp⟩ : ∃ p, qa * y0 = p := ⟨_, rfl⟩
      obtain ⟨t, ht⟩ : ∃ t, 4294967296 * ra + u1 = t := ⟨_, rfl⟩
      obtain ⟨m, hm⟩ : ∃ m, 4294967296 * ra = m := ⟨_, rfl⟩
      obtain ⟨rb, hrb⟩ : ∃ rb, ra + y1 = rb := ⟨_, rfl⟩
      have ep : (qa : Int) * (y0 : Int) = (p : Int) := by rw [← hp]; simp
      have em : 4294967296 * (ra : Int) = (m : Int) := by omega
      have et : (m : Int) + (u1 : Int) = (t : Int) := by omega
      have er : (ra : Int) + (y1 : Int) = (rb : Int) := by omega
      have htb : t < 18446744073709551616 := by omega
      have hmb : m < 18446744073709551616 := by omega
      have hrbb : rb < 18446744073709551616 := by omega
      have Hp := Lib.hid hp
      have Ht := Lib.hid ht
      have Hrb := Lib.hid hrb
      have HE2 : Hid (0 < qa → (qa - 1) * y1 + rb = u) := by
        intro h0
        have h1 := HE.out
        have h2 : (qa - 1) * y1 + y1 = qa * y1 := by rw [← Nat.succ_mul]; congr 1; omega
        omega
      have Hbr : Hid (4294967296 ≤ rb → Q1 < qa → qa - 1 = Q1) := by
        intro h1 h2
        have h3 := HE2.out (by omega)
        have h4 := HQ1.out
        refine Eq.trans ?_ h4.symm
        refine quot_eq ?_ (by omega) (by omega)
        rw [Hy1.out]
        exact (half_le h3).2 (half_break h3 h1 (by rw [← Hy1.out]; exact n5) hy0)
      have hgr : Hid (4294967296 ≤ qa → Q1 < qa) := by
        intro h1
        rw [HQ1.out]; exact quot_less (half_big h1 n5 (by omega)) (by omega)
      have hgs : Hid (t < p → Q1 < qa) := by
        intro h1
        rw [HQ1.out]
        refine quot_less ?_ (by omega)
        rcases Nat.lt_or_ge (u * 4294967296 + u1) (qa * Y) with h | h
        · exact h
        · rw [Hy1.out] at h
          have := (half_le HE.out).1 h
          rw [Hp.out, Ht.out] at this
          omega
      have hge : Hid (p ≤ t → qa = Q1) := by
        intro h1
        have h4 := HQ1.out
        refine Eq.trans ?_ h4.symm
        refine quot_eq ?_ (by rw [← h4]; exact HG.out) (by omega)
        rw [Hy1.out]
        refine (half_le HE.out).2 ?_
        rw [Hp.out, Ht.out]
        exact h1
      have hpb : Hid (¬ 4294967296 ≤ qa → p < 18446744073709551616) := by
        intro h1
        rw [← Hp.out]
        have : qa * y0 ≤ 4294967295 * 4294967295 := Nat.mul_le_mul (by omega) (by omega)
        omega
      have Hra := Lib.hid hra
      clear hp ht hm hrb hra
      by_cases hbig : 4294967296 ≤ qa
      · have hlt := hgr.out hbig
        have d1 : decide ((4294967296 : Int) ≤ (qa : Int)) = true := by simp; omega
        have d2 : decide (4294967296 ≤ qa) = true := by simp; omega
        clear hbig ep
        by_cases hbr : 4294967296 ≤ rb
        · have Hend := Lib.hid (Hbr.out hbr hlt)
          have d3 : decide ((4294967296 : Int) ≤ (rb : Int)) = true := by simp; omega
          have d4 : decide (4294967296 ≤ rb) = true := by simp; omega
          clear hbr
          go_wp2
          go_meet
          exact ⟨by rw [← Hend.out]; go_num, ⟨_, rfl⟩, rfl⟩
        · have d3 : decide ((4294967296 : Int) ≤ (rb : Int)) = false := by simp; omega
          have d4 : decide (4294967296 ≤ rb) = false := by simp; omega
          have Hrl := Lib.hid (show rb < 4294967296 by omega)
          have HE3 := Lib.hid (HE2.out (by omega))
          clear hbr
          go_wp2
          go_roundg (qa - 1)
          case rel => exact ⟨rfl, qa - 1, rb, rfl, by go_num, by go_num, Hrl.out, by omega, HE3.out, by show _ ≤ _; omega⟩
          case measure => omega
      · have hpb2 := hpb.out hbig
        have d1 : decide ((4294967296 : Int) ≤ (qa : Int)) = false := by simp; omega
        have d2 : decide (4294967296 ≤ qa) = false := by simp; omega
        clear hbig
        by_cases hgt : t < p
        · have hlt := hgs.out hgt
          by_cases hbr : 4294967296 ≤ rb
          · have Hend := Lib.hid (Hbr.out hbr hlt)
            have d3 : decide ((4294967296 : Int) ≤ (rb : Int)) = true := by simp; omega
            have d4 : decide (4294967296 ≤ rb) = true := by simp; omega
            clear hbr
            go_wp2
            go_meet
            exact ⟨by rw [← Hend.out]; go_num, ⟨_, rfl⟩, rfl⟩
          · have d3 : decide ((4294967296 : Int) ≤ (rb : Int)) = false := by simp; omega
            have d4 : decide (4294967296 ≤ rb) = false := by simp; omega
            have Hrl := Lib.hid (show rb < 4294967296 by omega)
            have HE3 := Lib.hid (HE2.out (by omega))
            clear hbr
            go_wp2
            go_roundg (qa - 1)
            case rel => exact ⟨rfl, qa - 1, rb, rfl, by go_num, by go_num, Hrl.out, by omega, HE3.out, by show _ ≤ _; omega⟩
            case measure => omega
        · have hend := hge.out (by omega)
          have Hend := Lib.hid hend
          clear hend
          go_wp2
          go_meet
          exact ⟨by rw [← Hend.out], ⟨_, rfl⟩, rfl⟩
  case rest =>
    obtain ⟨rfl, ⟨z, rfl⟩, rfl⟩ := hcut
    clear e1 e2 e3 hqa hra Hqa Hqb hpab Hlead
    obtain ⟨ka1, kb1, kc1, k1, k2, k3, k4⟩ : ∃ a b c : Nat, IntKind.u64.wrap ((u : Int) * 4294967296) = (a : Int) ∧ IntKind.u64.wrap ((a : Int) + (u1 : Int)) = (b : Int) ∧ IntKind.u64.wrap ((Q1 : Int) * (Y : Int)) = (c : Int) ∧ IntKind.u64.wrap ((b : Int) - (c : Int)) = (r1 : Int) := by
      have h := HR1.out
      have e := Int.natCast_mul Q1 Y
      generalize Q1 * Y = P at h e
      refine ⟨u * 4294967296 % 18446744073709551616, (u * 4294967296 % 18446744073709551616 + u1) % 18446744073709551616, P % 18446744073709551616, ?_, ?_, ?_, ?_⟩
      · rw [IntKind.wrap_u64]; omega
      · rw [IntKind.wrap_u64]; omega
      · rw [← e, IntKind.wrap_u64]; omega
      · rw [IntKind.wrap_u64]; omega
    obtain ⟨qa, ra, pa, hqp, hqe, hra, hqd⟩ : ∃ qa ra pa : Nat, qa * y1 = pa ∧ pa + ra = r1 ∧ ra < y1 ∧ r1 / y1 = qa := ⟨r1 / y1, r1 % y1, r1 / y1 * y1, rfl, Nat.div_add_mod' _ _, Nat.mod_lt _ (by omega), rfl⟩
    have e1 : (r1 : Int) / (y1 : Int) = (qa : Int) := by rw [← hqd]; simp
    have e2 : (qa : Int) * (y1 : Int) = (pa : Int) := by rw [← hqp]; simp
    have e3 : (r1 : Int) - (pa : Int) = (ra : Int) := by omega
    have Hqa : Hid (qa * y1 + ra = r1) := by rw [hqp]; exact hqe
    have Hqb : Hid (Q0 ≤ qa) := by
      rw [HQ0.out, ← hqd]
      have h := guess_ge (lo := u0) (hi := r1) (P := 4294967296) (v := y1) (W := r1 * 4294967296 + u0) (V := Y) (by omega) (by omega) (by have := Hy1.out; omega) (by omega)
      exact h
    have hqa : qa ≤ 8589934592 := by
      rw [← hqd]
      have : r1 / y1 ≤ r1 / 2147483648 := Nat.div_le_div_left g1 (by decide)
      omega
    have hra : ra < 4294967296 := by omega
    have hpab : pa < 18446744073709551616 := by omega
    clear hqp hqe hqd
    go_upto_block 2 with fail
    clear k1 k2 k3 k4
    go_cut [18, 16] from 19 (fun s18 s16 w' => s18 = .int .u64 (Q0 : Int) ∧ (∃ z, s16 = .int .u64 z) ∧ w' = wc)
    case first =>
      go_wp2_with fail
      go_loopg [18, 16] qa (fun g a b wx => wx = wc ∧ ∃ qa ra : Nat, qa = g ∧ a = .int .u64 qa ∧ b = .int .u64 ra ∧ ra < 4294967296 ∧ qa ≤ 8589934592 ∧ Hid (qa * y1 + ra = r1) ∧ Hid (Q0 ≤ qa))
      case atStart => exact ⟨rfl, _, _, rfl, rfl, rfl, hra, hqa, Hqa, Hqb⟩
      case round =>
        clear e1 e2 e3 hqa hra Hqa Hqb
        obtain ⟨rfl, qa, ra, rfl, rfl, rfl, hra, hqa, HE, HG⟩ := hrel
        obtain ⟨p, hp⟩ : ∃ p, qa * y0 = p := ⟨_, rfl⟩
        obtain ⟨t, ht⟩ : ∃ t, 4294967296 * ra + u0 = t := ⟨_, rfl⟩
        obtain ⟨m, hm⟩ : ∃ m, 4294967296 * ra = m := ⟨_, rfl⟩
        obtain ⟨rb, hrb⟩ : ∃ rb, ra + y1 = rb := ⟨_, rfl⟩
        have ep : (qa : Int) * (y0 : Int) = (p : Int) := by rw [← hp]; simp
        have em : 4294967296 * (ra : Int) = (m : Int) := by omega
        have et : (m : Int) + (u0 : Int) = (t : Int) := by omega
        have er : (ra : Int) + (y1 : Int) = (rb : Int) := by omega
        have htb : t < 18446744073709551616 := by omega
        have hmb : m < 18446744073709551616 := by omega
        have hrbb : rb < 18446744073709551616 := by omega
        have Hp := Lib.hid hp
        have Ht := Lib.hid ht
        have Hrb := Lib.hid hrb
        have HE2 : Hid (0 < qa → (qa - 1) * y1 + rb = r1) := by
          intro h0
          have h1 := HE.out
          have h2 : (qa - 1) * y1 + y1 = qa * y1 := by rw [← Nat.succ_mul]; congr 1; omega
          omega
        have Hbr : Hid (4294967296 ≤ rb → Q0 < qa → qa - 1 = Q0) := by
          intro h1 h2
          have h3 := HE2.out (by omega)
          have h4 := HQ0.out
          refine Eq.trans ?_ h4.symm
          refine quot_eq ?_ (by omega) (by omega)
          rw [Hy1.out]
          exact (half_le h3).2 (half_break h3 h1 (by rw [← Hy1.out]; exact hr1b) hy0)
        have hgr : Hid (4294967296 ≤ qa → Q0 < qa) := by
          intro h1
          rw [HQ0.out]; exact quot_less (half_big h1 hr1b (by omega)) (by omega)
        have hgs : Hid (t < p → Q0 < qa) := by
          intro h1
          rw [HQ0.out]
          refine quot_less ?_ (by omega)
          rcases Nat.lt_or_ge (r1 * 4294967296 + u0) (qa * Y) with h | h
          · exact h
          · rw [Hy1.out] at h
            have := (half_le HE.out).1 h
            rw [Hp.out, Ht.out] at this
            omega
        have hge : Hid (p ≤ t → qa = Q0) := by
          intro h1
          have h4 := HQ0.out
          refine Eq.trans ?_ h4.symm
          refine quot_eq ?_ (by rw [← h4]; exact HG.out) (by omega)
          rw [Hy1.out]
          refine (half_le HE.out).2 ?_
          rw [Hp.out, Ht.out]
          exact h1
        have hpb : Hid (¬ 4294967296 ≤ qa → p < 18446744073709551616) := by
          intro h1
          rw [← Hp.out]
          have : qa * y0 ≤ 4294967295 * 4294967295 := Nat.mul_le_mul (by omega) (by omega)
          omega
        have Hra := Lib.hid hra
        clear hp ht hm hrb hra
        by_cases hbig : 4294967296 ≤ qa
        · have hlt := hgr.out hbig
          have d1 : decide ((4294967296 : Int) ≤ (qa : Int)) = true := by simp; omega
          have d2 : decide (4294967296 ≤ qa) = true := by simp; omega
          clear hbig ep
          by_cases hbr : 4294967296 ≤ rb
          · have Hend := Lib.hid (Hbr.out hbr hlt)
            have d3 : decide ((4294967296 : Int) ≤ (rb : Int)) = true := by simp; omega
            have d4 : decide (4294967296 ≤ rb) = true := by simp; omega
            clear hbr
            go_wp2
            go_meet
            exact ⟨by rw [← Hend.out]; go_num, ⟨_, rfl⟩, rfl⟩
          · have d3 : decide ((4294967296 : Int) ≤ (rb : Int)) = false := by simp; omega
            have d4 : decide (4294967296 ≤ rb) = false := by simp; omega
            have Hrl := Lib.hid (show rb < 4294967296 by omega)
            have HE3 := Lib.hid (HE2.out (by omega))
            clear hbr
            go_wp2
            go_roundg (qa - 1)
            case rel => exact ⟨rfl, qa - 1, rb, rfl, by go_num, by go_num, Hrl.out, by omega, HE3.out, by show _ ≤ _; omega⟩
            case measure => omega
        · have hpb2 := hpb.out hbig
          have d1 : decide ((4294967296 : Int) ≤ (qa : Int)) = false := by simp; omega
          have d2 : decide (4294967296 ≤ qa) = false := by simp; omega
          clear hbig
          by_cases hgt : t < p
          · have hlt := hgs.out hgt
            by_cases hbr : 4294967296 ≤ rb
            · have Hend := Lib.hid (Hbr.out hbr hlt)
              have d3 : decide ((4294967296 : Int) ≤ (rb : Int)) = true := by simp; omega
              have d4 : decide (4294967296 ≤ rb) = true := by simp; omega
              clear hbr
              go_wp2
              go_meet
              exact ⟨by rw [← Hend.out]; go_num, ⟨_, rfl⟩, rfl⟩
            · have d3 : decide ((4294967296 : Int) ≤ (rb : Int)) = false := by simp; omega
              have d4 : decide (4294967296 ≤ rb) = false := by simp; omega
              have Hrl := Lib.hid (show rb < 4294967296 by omega)
              have HE3 := Lib.hid (HE2.out (by omega))
              clear hbr
              go_wp2
              go_roundg (qa - 1)
              case rel => exact ⟨rfl, qa - 1, rb, rfl, by go_num, by go_num, Hrl.out, by omega, HE3.out, by show _ ≤ _; omega⟩
              case measure => omega
          · have hend := hge.out (by omega)
            have Hend := Lib.hid hend
            clear hend
            go_wp2
            go_meet
            exact ⟨by rw [← Hend.out], ⟨_, rfl⟩, rfl⟩
    case rest =>
      obtain ⟨rfl, ⟨z2, rfl⟩, rfl⟩ := hcut
      clear e1 e2 e3 hqa hra Hqa Hqb hpab
      obtain ⟨ka2, kb2, kc2, k1, k2, k3, k4⟩ : ∃ a b c : Nat, IntKind.u64.wrap ((r1 : Int) * 4294967296) = (a : Int) ∧ IntKind.u64.wrap ((a : Int) + (u0 : Int)) = (b : Int) ∧ IntKind.u64.wrap ((Q0 : Int) * (Y : Int)) = (c : Int) ∧ IntKind.u64.wrap ((b : Int) - (c : Int)) = (r0 : Int) := by
        have h := HR0.out
        have e := Int.natCast_mul Q0 Y
        generalize Q0 * Y = P at h e
        refine ⟨r1 * 4294967296 % 18446744073709551616, (r1 * 4294967296 % 18446744073709551616 + u0) % 18446744073709551616, P % 18446744073709551616, ?_, ?_, ?_, ?_⟩
        · rw [IntKind.wrap_u64]; omega
        · rw [IntKind.wrap_u64]; omega
        · rw [← e, IntKind.wrap_u64]; omega
        · rw [IntKind.wrap_u64]; omega
      have m1 : (Q1 : Int) * 4294967296 + (Q0 : Int) = (q : Int) := by have := Hend.out.1; omega
      have m2 : (r0 : Int) / 2 ^ s = (r : Int) := by rw [← Hend.out.2]; simp
      go_wp2
      go_ret2
      exact ⟨rfl, 0, rfl⟩

/-- Any two limbs by a greater one than the upper. -/
theorem div64_any (hi lo y q r : Nat) (w : World) (hhi : hi < y) (hlo : lo < 18446744073709551616) (hy : y < 18446744073709551616) (hr : r < y) (hq : Hid (hi * 18446744073709551616 + lo = q * y + r)) :
    Calls Tryz.prog 107 #[.int .u64 (hi : Int), .int .u64 (lo : Int), .int .u64 (y : Int)] w fun e w' => e = .returned (.tuple #[.int .u64 (q : Int), .int .u64 (r : Int)]) ∧ ∃ k, w' = w.drewN k := by
  rcases Nat.eq_zero_or_pos hi with h0 | h0
  · subst h0
    exact div64_low lo y q r w hlo hy hr (by have := hq.out; rw [Nat.zero_mul, Nat.zero_add] at this; exact this)
  · have h1 := blen_le_iff.2 (show y < 2 ^ 64 from hy)
    exact div64_high hi lo y q r (64 - blen y) w hhi h0 hlo hy hr hq (by show 64 - blen y + blen y = 64; omega)
end Go.Proofs.YtijhdlkfihjbiaaGreatDoor
/- Words for a row that a callee turns in place: a window of it; the callees' walks: quo.bare, guessed, takeTimes, putBack. -/
namespace Go.Proofs.YtijhdlkfihjbiaaGreatDoor
open Go.RowKit

/-- Block g alone has turned. -/
structure But (g : Nat) (w w' : World) : Prop where
  os : w'.os = w.os
  tape : w'.tape = w.tape
  output : w'.output = w.output
  size : w'.heap.size = w.heap.size
  block : ∀ k, k ≠ g → w'.heap[k]? = w.heap[k]?

theorem But.refl (g : Nat) (w : World) : But g w w := ⟨rfl, rfl, rfl, rfl, fun _ _ => rfl⟩
theorem But.trans {g : Nat} {a b c : World} (h : But g a b) (k : But g b c) : But g a c :=
  ⟨k.os.trans h.os, k.tape.trans h.tape, k.output.trans h.output, k.size.trans h.size, fun i hi => (k.block i hi).trans (h.block i hi)⟩
theorem But.drewN {g : Nat} {a w : World} (h : But g a w) (n : Nat) : But g a (w.drewN n) := ⟨h.os, h.tape, h.output, h.size, h.block⟩
theorem But.setCell {g : Nat} {a w : World} (h : But g a w) (j : Nat) (v : Value) : But g a (w.setCell ⟨g, j, none⟩ v) :=
  h.trans ⟨rfl, rfl, rfl, by simp [World.setCell], fun k hk => Below.heap_setCell _ _ _ _ hk⟩
theorem But.below {g B : Nat} {w w' : World} (h : But g w w') (hB : B ≤ g) : Below B w w' := ⟨h.os, h.tape, h.output, by rw [h.size]; exact Nat.le_refl _, fun k hk => h.block k (by omega)⟩
theorem But.cell {g : Nat} {w w' : World} (h : But g w w') {p : Addr} (hp : p.block ≠ g) : w'.cell? p = w.cell? p := World.cell?_of_block (w := w) (h.block p.block hp)
theorem Lim.but {g b o n c : Nat} {w w' : World} {xs : List Nat} (h : Lim w (some ⟨b, o, none⟩) n c xs) (hb : But g w w') (hg : b ≠ g) : Lim w' (some ⟨b, o, none⟩) n c xs :=
  ⟨h.1, h.2.1, h.2.2.1, fun hn => by
    obtain ⟨b', o', e, hl, hc⟩ := h.at_ hn
    cases e
    exact ⟨b, o, rfl, by rw [hb.size]; exact hl, fun k hk => (hb.cell (p := ⟨b, o + k, none⟩) hg).trans (hc k hk)⟩⟩

/-- A row of limbs: block g holds ls. -/
def Holds (w : World) (g t : Nat) (ls : List Nat) : Prop := w.rowIs g t ls.length (fun j => .int .u64 ((ls.getD j 0 : Nat) : Int)) ∧ Words ls
theorem Holds.lim {w : World} {g t : Nat} {ls : List Nat} (h : Holds w g t ls) : Lim w (some ⟨g, 0, none⟩) ls.length ls.length ls := Lim.row h.1 rfl h.2 (fun _ _ => rfl)
theorem Holds.lt {w : World} {g t : Nat} {ls : List Nat} (h : Holds w g t ls) : g < w.heap.size := h.1.lt
theorem Holds.but {w w' : World} {g g' t : Nat} {ls : List Nat} (h : Holds w g t ls) (hb : But g' w w') (hg : g ≠ g') : Holds w' g t ls := ⟨h.1.of_block (hb.block g hg), h.2⟩
theorem Holds.below {w w' : World} {g B t : Nat} {ls : List Nat} (h : Holds w g t ls) (hb : Below B w w') (hg : g < B) : Holds w' g t ls := ⟨h.1.of_block (hb.block g hg), h.2⟩
theorem Holds.cell {w : World} {g t : Nat} {ls : List Nat} (h : Holds w g t ls) {j : Nat} (hj : j < ls.length) : w.cell? ⟨g, j, none⟩ = some (.int .u64 ((ls.getD j 0 : Nat) : Int)) := h.1.cell hj
theorem Holds.frozen {w : World} {g t : Nat} {ls : List Nat} (h : Holds w g t ls) (j : Nat) : w.frozen? ⟨g, j, none⟩ = false := h.1.frozen j
theorem getD_set' (zs : List Nat) (k z j : Nat) (hk : k < zs.length) : (zs.set k z).getD j 0 = if j = k then z else zs.getD j 0 := by
  rw [List.getD_eq_getElem?_getD, List.getD_eq_getElem?_getD, List.getElem?_set]
  by_cases h : k = j
  · subst h; simp [hk]
  · rw [if_neg h, if_neg (fun e => h e.symm)]
theorem Holds.set {w : World} {g t : Nat} {ls : List Nat} (h : Holds w g t ls) {k z : Nat} (hk : k < ls.length) (hz : z < 18446744073709551616) : Holds (w.setCell ⟨g, k, none⟩ (.int .u64 (z : Int))) g t (ls.set k z) :=
  ⟨by
    rw [List.length_set]
    exact (h.1.set _ _).congr (fun j _ => by rw [getD_set' ls k z j hk]; split <;> rfl), h.2.set k hz⟩
theorem Holds.drewN {w : World} {g t : Nat} {ls : List Nat} (h : Holds w g t ls) (n : Nat) : Holds (w.drewN n) g t ls := h

/-- A window of such a row: ps ahead of it, qs behind it. -/
def Win (w wr : World) (g t o : Nat) (ps ws qs : List Nat) : Prop := But g w wr ∧ Holds wr g t (ps ++ (ws ++ qs)) ∧ ps.length = o
section
variable {w wr : World} {g t o : Nat} {ps ws qs : List Nat}
theorem Win.cell (h : Win w wr g t o ps ws qs) {k : Nat} (hk : k < ws.length) : wr.cell? ⟨g, o + k, none⟩ = some (.int .u64 ((ws.getD k 0 : Nat) : Int)) := by
  have := h.2.1.cell (j := o + k) (by have := h.2.2; simp; omega)
  rw [this, ← h.2.2]
  have e : (ps ++ (ws ++ qs)).getD (ps.length + k) 0 = ws.getD k 0 := by
    rw [List.getD_eq_getElem?_getD, List.getD_eq_getElem?_getD, List.getElem?_append_right (by omega), Nat.add_sub_cancel_left, List.getElem?_append_left hk]
  rw [e]
theorem Win.frozen (h : Win w wr g t o ps ws qs) (k : Nat) : wr.frozen? ⟨g, k, none⟩ = false := h.2.1.frozen k
theorem Win.words (h : Win w wr g t o ps ws qs) : Words ws := fun x hx => h.2.1.2 x (List.mem_append_right _ (List.mem_append_left _ hx))
theorem Win.but (h : Win w wr g t o ps ws qs) : But g w wr := h.1
theorem Win.set (h : Win w wr g t o ps ws qs) {k z : Nat} (hk : k < ws.length) (hz : z < 18446744073709551616) : Win w (wr.setCell ⟨g, o + k, none⟩ (.int .u64 (z : Int))) g t o ps (ws.set k z) qs := by
  refine ⟨h.1.setCell _ _, ?_, h.2.2⟩
  have := h.2.1.set (k := o + k) (z := z) (by have := h.2.2; simp; omega) hz
  have e : (ps ++ (ws ++ qs)).set (o + k) z = ps ++ (ws.set k z ++ qs) := by
    rw [← h.2.2, List.set_append_right _ _ (by omega), Nat.add_sub_cancel_left, List.set_append_left _ _ hk]
  rwa [e] at this
theorem Win.drewN (h : Win w wr g t o ps ws qs) (n : Nat) : Win w (wr.drewN n) g t o ps ws qs := ⟨h.1.drewN n, h.2.1, h.2.2⟩
end

set_option maxHeartbeats 1000000 in
/-- quo.bare: a's own memory, without leading noughts. -/
theorem qbare_any (l : Nat) (A : Option Addr) (n c : Nat) (xs : List Nat) (w : World) (hA : Lim w A n c xs) (hn : n ≤ 4398046511104) (hl : Hid (tl xs = l)) :
    Calls Tryz.prog 98 #[.slice A n c] w fun e w' => e = .returned (.slice A l c) ∧ w = w' := by
  have h1 := tl_of_blen hA.words
  have h2 := hA.tl_le
  have h3 := hA.le
  have hB := bits_any A n c xs w hA hn
  rw [hl.out] at h1 h2
  generalize blen (val xs) = b at h1 hB
  have HB := Lib.hid hB
  have e1 : ((b : Int) + 64 - 1) / 64 = (l : Int) := by omega
  have e2 : ((b : Int) + 63) / 64 = (l : Int) := by omega
  have hb : b ≤ 64 * 4398046511104 := by omega
  clear hB h1 hA
  go_enter Tryz.func98, Tryz.ntmps98
  go_wp2_with fail
  refine HB.out.mono ?_
  rintro e w' ⟨rfl, rfl⟩
  go_wp2
  go_ret
  exact ⟨rfl, rfl⟩

set_option maxHeartbeats 2000000 in
/-- takeTimes: the divisor N times from the window; whether that was too often. -/
theorem take_any (w : World) (g t o c : Nat) (ps ws qs : List Nat) (b bo n d : Nat) (ds : List Nat) (N : Nat) (hW : Win w w g t o ps ws qs) (hws : ws.length = n + 1) (hD : Lim w (some ⟨b, bo, none⟩) n d ds) (hbg : b ≠ g) (hN : N < 18446744073709551616) (hn : n ≤ 1000000000) :
    Calls Tryz.prog 115 #[.slice (some ⟨g, o, none⟩) ((n + 1 : Nat)) c, .slice (some ⟨b, bo, none⟩) n d, .int .u64 (N : Int)] w fun e w' => ∃ us tt, e = .returned (.bool (decide (0 < tt))) ∧ tt ≤ 1 ∧ us.length = n + 1 ∧ Win w w' g t o ps us qs ∧ val us + N * val ds = val ws + pw (n + 1) * tt := by
  have HW := Lib.hid hW
  have HD := Lib.hid hD
  have Hws := Lib.hid hws
  clear hW hD hws
  go_enter Tryz.func115, Tryz.ntmps115
  go_wp2
  go_loopw [7, 18] (fun cy i wr => ∃ (k ow : Nat) (us : List Nat), k ≤ n ∧ i = .int .i64 k ∧ cy = .int .u64 ow ∧ ow < 18446744073709551616 ∧ Hid (us.length = n + 1) ∧ Hid (Win w wr g t o ps us qs) ∧ Hid (val us + N * val (ds.take k) = val ws + pw k * ow)) (fun _ i _ => n - (intOf i).toNat)
  case atStart => exact ⟨0, 0, ws, Nat.zero_le _, rfl, rfl, by decide, Hws, HW, by simp [Hid, val]⟩
  case round =>
    obtain ⟨w1, rfl⟩ : ∃ w1, w1 = wr := ⟨_, rfl⟩
    obtain ⟨k, ow, us, hk, rfl, rfl, how, Hl1, HW1, HE1⟩ := hrel
    by_cases hlt : k < n
    · obtain ⟨b', o', hAe, hb, hcl⟩ := (HD.out.but HW1.out.but hbg).at_ (by omega)
      cases hAe
      have c1 := hcl k hlt
      clear hcl
      have c2 := HW1.out.cell (k := k) (by have := Hl1.out; omega)
      have c3 := HW1.out.frozen (o + k)
      have hxw := HD.out.words.getD k
      have hyw := HW1.out.words.getD k
      obtain ⟨x, hx⟩ : ∃ x, ds.getD k 0 = x := ⟨_, rfl⟩
      obtain ⟨y, hy⟩ : ∃ y, us.getD k 0 = y := ⟨_, rfl⟩
      rw [hx] at c1 hxw
      rw [hy] at c2 hyw
      obtain ⟨h, l, hp, hl⟩ : ∃ h l, l + 18446744073709551616 * h = x * N ∧ l < 18446744073709551616 := ⟨x * N / 18446744073709551616, x * N % 18446744073709551616, by omega, by omega⟩
      obtain ⟨s1, t1, hs1, hs1', ht1⟩ : ∃ s t, s + 18446744073709551616 * t = l + ow + 0 ∧ s < 18446744073709551616 ∧ t ≤ 1 := ⟨(l + ow) % 18446744073709551616, (l + ow) / 18446744073709551616, by omega, by omega, by omega⟩
      obtain ⟨s2, t2, hs2, hs2', ht2⟩ : ∃ s t, s + s1 + 0 = y + 18446744073709551616 * t ∧ s < 18446744073709551616 ∧ t ≤ 1 := by
        by_cases hc : s1 ≤ y
        · exact ⟨y - s1, 0, by omega, by omega, by omega⟩
        · exact ⟨y + 18446744073709551616 - s1, 1, by omega, by omega, by omega⟩
      obtain ⟨o1, o2⟩ := owed_lt hxw hN how hp hs1 hs2 hs2'
      have hmul := mul64_any x N h l hxw hN hp hl
      have hadd := add64 l ow 0 s1 t1 (by decide) hs1 hs1'
      have hsub := sub64 y s1 0 s2 t2 (by decide) hs2 hs2' hyw hs1'
      rw [show ((0 : Nat) : Int) = 0 from rfl] at hadd hsub
      have HW2 := Lib.hid (HW1.out.set (k := k) (z := s2) (by have := Hl1.out; omega) hs2')
      have Hl2 : Hid ((us.set k s2).length = n + 1) := by rw [List.length_set]; exact Hl1
      have HE2 : Hid (val (us.set k s2) + N * val (ds.take (k + 1)) = val ws + pw (k + 1) * (h + t1 + t2)) := by
        have h1 := val_set us k s2 (by have := Hl1.out; omega)
        rw [hy] at h1
        show _ = _
        rw [val_take_succ', hx]
        exact take_step hp hs1 hs2 h1 HE1.out
      obtain ⟨ow2, how2⟩ : ∃ ow2, h + t1 + t2 = ow2 := ⟨_, rfl⟩
      have e1 : (h : Int) + (t1 : Int) + (t2 : Int) = (ow2 : Int) := by omega
      rw [how2] at HE2 o2
      have Hmul := Lib.hid hmul
      clear hx hy hp hs1 hs2 HE1 hmul how2
      go_wp2_with fail
      refine (Hmul.out _).mono ?_
      rintro e w' ⟨rfl, rfl⟩
      go_wp2
      go_roundw
      case rel => exact ⟨k + 1, ow2, us.set k s2, by omega, by go_num, by go_num, o2, Hl2, HW2, HE2⟩
      case measure => simp [intOf]; omega
    · obtain rfl : k = n := by omega
      have c2 := HW1.out.cell (k := k) (by have := Hl1.out; omega)
      have c3 := HW1.out.frozen (o + k)
      have hyw := HW1.out.words.getD k
      obtain ⟨y, hy⟩ : ∃ y, us.getD k 0 = y := ⟨_, rfl⟩
      rw [hy] at c2 hyw
      obtain ⟨s2, t2, hs2, hs2', ht2⟩ : ∃ s t, s + ow + 0 = y + 18446744073709551616 * t ∧ s < 18446744073709551616 ∧ t ≤ 1 := by
        by_cases hc : ow ≤ y
        · exact ⟨y - ow, 0, by omega, by omega, by omega⟩
        · exact ⟨y + 18446744073709551616 - ow, 1, by omega, by omega, by omega⟩
      have hsub := sub64 y ow 0 s2 t2 (by decide) hs2 hs2' hyw how
      rw [show ((0 : Nat) : Int) = 0 from rfl] at hsub
      have HW2 := Lib.hid (HW1.out.set (k := k) (z := s2) (by have := Hl1.out; omega) hs2')
      have Hl2 : Hid ((us.set k s2).length = k + 1) := by rw [List.length_set]; exact Hl1
      have HE2 : Hid (val (us.set k s2) + N * val ds = val ws + pw (k + 1) * t2) := by
        have h1 := val_set us k s2 (by have := Hl1.out; omega)
        rw [hy] at h1
        have h2 := HE1.out
        rw [List.take_of_length_le (by have := HD.out.len; omega)] at h2
        exact take_last hs2 h1 h2
      have b1 : ((t2 : Int) != 0) = decide (0 < t2) := by
        by_cases h0 : t2 = 0
        · subst h0; rfl
        · have : 0 < t2 := by omega
          simp [this]; omega
      clear hy hs2 HE1
      go_wp2
      go_ret
      exact ⟨us.set k s2, t2, rfl, ht2, Hl2.out, HW2.out, HE2.out⟩

set_option maxHeartbeats 2000000 in
/-- putBack: the divisor once to the window; whether it has come round. -/
theorem put_any (w : World) (g t o c : Nat) (ps ws qs : List Nat) (b bo n d : Nat) (ds : List Nat) (hW : Win w w g t o ps ws qs) (hws : ws.length = n + 1) (hD : Lim w (some ⟨b, bo, none⟩) n d ds) (hbg : b ≠ g) (hn : n ≤ 1000000000) :
    Calls Tryz.prog 116 #[.slice (some ⟨g, o, none⟩) ((n + 1 : Nat)) c, .slice (some ⟨b, bo, none⟩) n d] w fun e w' => ∃ us tt, e = .returned (.bool (decide (0 < tt))) ∧ tt ≤ 1 ∧ us.length = n + 1 ∧ Win w w' g t o ps us qs ∧ val us + pw (n + 1) * tt = val ws + val ds := by
  have HW := Lib.hid hW
  have HD := Lib.hid hD
  have Hws := Lib.hid hws
  clear hW hD hws
  go_enter Tryz.func116, Tryz.ntmps116
  go_wp2
  go_loopw [5, 11] (fun cy i wr => ∃ (k cn : Nat) (us : List Nat), k ≤ n ∧ i = .int .i64 k ∧ cy = .int .u64 cn ∧ cn ≤ 1 ∧ Hid (us.length = n + 1) ∧ Hid (Win w wr g t o ps us qs) ∧ Hid (val us + pw k * cn = val ws + val (ds.take k))) (fun _ i _ => n - (intOf i).toNat)
  case atStart => exact ⟨0, 0, ws, Nat.zero_le _, rfl, rfl, by decide, Hws, HW, by simp [Hid, val]⟩
  case round =>
    obtain ⟨w1, rfl⟩ : ∃ w1, w1 = wr := ⟨_, rfl⟩
    obtain ⟨k, cn, us, hk, rfl, rfl, hcn, Hl1, HW1, HE1⟩ := hrel
    by_cases hlt : k < n
    · obtain ⟨b', o', hAe, hb, hcl⟩ := (HD.out.but HW1.out.but hbg).at_ (by omega)
      cases hAe
      have c1 := hcl k hlt
      clear hcl
      have c2 := HW1.out.cell (k := k) (by have := Hl1.out; omega)
      have c3 := HW1.out.frozen (o + k)
      have hxw := HD.out.words.getD k
      have hyw := HW1.out.words.getD k
      obtain ⟨x, hx⟩ : ∃ x, ds.getD k 0 = x := ⟨_, rfl⟩
      obtain ⟨y, hy⟩ : ∃ y, us.getD k 0 = y := ⟨_, rfl⟩
      rw [hx] at c1 hxw
      rw [hy] at c2 hyw
      obtain ⟨s, u, hst, hs, ht⟩ : ∃ s t, s + 18446744073709551616 * t = y + x + cn ∧ s < 18446744073709551616 ∧ t ≤ 1 := ⟨(y + x + cn) % 18446744073709551616, (y + x + cn) / 18446744073709551616, by omega, by omega, by omega⟩
      have hadd := add64 y x cn s u hcn hst hs
      have HW2 := Lib.hid (HW1.out.set (k := k) (z := s) (by have := Hl1.out; omega) hs)
      have Hl2 : Hid ((us.set k s).length = n + 1) := by rw [List.length_set]; exact Hl1
      have HE2 : Hid (val (us.set k s) + pw (k + 1) * u = val ws + val (ds.take (k + 1))) := by
        have h1 := val_set us k s (by have := Hl1.out; omega)
        rw [hy] at h1
        have h2 := set_step hst h1 HE1.out
        show _ = _
        rw [val_take_succ', hx, ← Nat.add_assoc]
        exact h2
      clear hx hy hst HE1
      go_wp2
      go_roundw
      case rel => exact ⟨k + 1, u, us.set k s, by omega, by go_num, rfl, ht, Hl2, HW2, HE2⟩
      case measure => simp [intOf]; omega
    · obtain rfl : k = n := by omega
      have c2 := HW1.out.cell (k := k) (by have := Hl1.out; omega)
      have c3 := HW1.out.frozen (o + k)
      have hyw := HW1.out.words.getD k
      obtain ⟨y, hy⟩ : ∃ y, us.getD k 0 = y := ⟨_, rfl⟩
      rw [hy] at c2 hyw
      obtain ⟨s, u, hst, hs, ht⟩ : ∃ s t, s + 18446744073709551616 * t = y + 0 + cn ∧ s < 18446744073709551616 ∧ t ≤ 1 := ⟨(y + cn) % 18446744073709551616, (y + cn) / 18446744073709551616, by omega, by omega, by omega⟩
      have hadd := add64 y 0 cn s u hcn hst hs
      rw [show ((0 : Nat) : Int) = 0 from rfl] at hadd
      have HW2 := Lib.hid (HW1.out.set (k := k) (z := s) (by have := Hl1.out; omega) hs)
      have Hl2 : Hid ((us.set k s).length = k + 1) := by rw [List.length_set]; exact Hl1
      have HE2 : Hid (val (us.set k s) + pw (k + 1) * u = val ws + val ds) := by
        have h1 := val_set us k s (by have := Hl1.out; omega)
        rw [hy] at h1
        have h3 := HE1.out
        rw [List.take_of_length_le (by have := HD.out.len; omega)] at h3
        have h2 := set_step hst h1 h3
        rw [Nat.mul_zero, Nat.add_zero] at h2
        exact h2
      have b1 : ((u : Int) != 0) = decide (0 < u) := by
        by_cases h0 : u = 0
        · subst h0; rfl
        · have : 0 < u := by omega
          simp [this]; omega
      clear hy hst HE1
      go_wp2
      go_ret
      exact ⟨us.set k s, u, rfl, ht, Hl2.out, HW2.out, HE2.out⟩

theorem quiet_draws {P : Program} {f : FuncId} {args : Array Value} {w : World} {a n : Nat} {v : Value}
    (h : Calls P f args (w.drewN (a + n)) fun e w' => e = .returned v ∧ ∃ k, w' = (w.drewN (a + n)).drewN k) : Calls P f args (w.drewN (a + n)) fun e w'' => e = .returned v ∧ ∃ m, w'' = w.drewN (a + m) :=
  h.mono fun _ _ ⟨he, k, hm⟩ => ⟨he, n + k, by rw [hm, World.drewN_drewN, Nat.add_assoc]⟩
theorem ltop_two (ws : List Nat) (l : Nat) (hl : ws.length = l + 2) : val ws = val (ws.take l) + pw l * (ws.getD l 0 + 18446744073709551616 * ws.getD (l + 1) 0) := by
  have h1 := val_take_succ ws (l + 1) (by omega)
  rw [List.take_of_length_le (by omega), val_take_succ ws l (by omega), pw_succ] at h1
  rw [h1, Nat.mul_add, Nat.mul_comm 18446744073709551616 (pw l), Nat.mul_assoc, Nat.add_assoc]
theorem ltop_one (ds : List Nat) (l : Nat) (hl : ds.length = l + 1) : val ds = val (ds.take l) + pw l * ds.getD l 0 := by
  have h1 := val_take_succ ds l (by omega)
  rwa [List.take_of_length_le (by omega)] at h1

set_option maxHeartbeats 2000000 in
/-- guessed: never too small. -/
theorem guess_any (w : World) (g t o c : Nat) (ps ws qs : List Nat) (b bo l d : Nat) (ds : List Nat) (hW : Win w w g t o ps ws qs) (hws : ws.length = l + 2) (hD : Lim w (some ⟨b, bo, none⟩) (l + 1) d ds) (hv : ds.getD l 0 ≠ 0) (hlt : val ws < val ds * 18446744073709551616) (hn : l ≤ 1000000000) :
    Calls Tryz.prog 114 #[.slice (some ⟨g, o, none⟩) ((l + 2 : Nat)) c, .slice (some ⟨b, bo, none⟩) ((l + 1 : Nat)) d] w fun e w' => ∃ G k : Nat, e = .returned (.int .u64 (G : Int)) ∧ G < 18446744073709551616 ∧ val ws / val ds ≤ G ∧ w' = w.drewN k := by
  have c1 := hW.cell (k := l) (by omega)
  have c2 := hW.cell (k := l + 1) (by omega)
  obtain ⟨b', o', hAe, hb, hcl⟩ := hD.at_ (by omega)
  cases hAe
  have c3 := hcl l (by omega)
  clear hcl
  have h2 := ltop_two ws l hws
  have h1 := ltop_one ds l hD.len
  have hlo := val_lt (hW.words.take l)
  rw [List.length_take, Nat.min_eq_left (by omega)] at hlo
  have hxw := hW.words.getD l
  have hyw := hW.words.getD (l + 1)
  have hvw := hD.words.getD l
  generalize ws.getD l 0 = x at c1 h2 hxw
  generalize ws.getD (l + 1) 0 = y at c2 h2 hyw
  generalize ds.getD l 0 = v at c3 h1 hv hvw
  have hV0 : 0 < val ds := by
    rw [h1]
    have := Nat.mul_pos (pw_pos l) (Nat.pos_of_ne_zero hv)
    omega
  by_cases hc : v ≤ y
  · have HG : Hid (val ws / val ds ≤ 18446744073709551615) := by
      have := (Nat.div_lt_iff_lt_mul hV0).2 (by rw [Nat.mul_comm]; exact hlt)
      show _ ≤ _
      omega
    have b1 : decide (v ≤ y) = true := by simp; omega
    clear h1 h2 hlo hlt hV0 hW hD
    go_enter Tryz.func114, Tryz.ntmps114
    go_wp2
    go_quiet (fail)
    go_wp2
    go_ret
    exact ⟨18446744073709551615, _, rfl, by decide, HG.out, rfl⟩
  · have HG : Hid (val ws / val ds ≤ (y * 18446744073709551616 + x) / v) := by
      refine guess_ge (lo := val (ws.take l)) (P := pw l) ?_ hlo (by rw [h1]; exact Nat.le_add_left _ _) (by omega)
      rw [h2]
      congr 2
      omega
    obtain ⟨G, hG⟩ : ∃ G, (y * 18446744073709551616 + x) / v = G := ⟨_, rfl⟩
    have hGb : G < 18446744073709551616 := by
      rw [← hG]
      refine (Nat.div_lt_iff_lt_mul (by omega)).2 ?_
      have : (y + 1) * 18446744073709551616 ≤ v * 18446744073709551616 := Nat.mul_le_mul_right _ (by omega)
      omega
    obtain ⟨r, hr⟩ : ∃ r, (y * 18446744073709551616 + x) % v = r := ⟨_, rfl⟩
    have Hdiv := Lib.hid (fun w => div64_any y x v G r w (by omega) hxw hvw (by rw [← hr]; exact Nat.mod_lt _ (by omega)) (by rw [← hG, ← hr]; exact (Nat.div_add_mod' _ _).symm))
    rw [hG] at HG
    have b1 : decide (v ≤ y) = false := by simp; omega
    clear h1 h2 hlo hlt hV0 hW hD hG hr
    go_enter Tryz.func114, Tryz.ntmps114
    go_wp2
    go_quiet (fail)
    go_wp2
    go_quiet ((go_at_call 107; exact quiet_draws (Hdiv.out _)))
    go_wp2
    go_ret
    exact ⟨G, _, rfl, hGb, HG.out, World.drewN_drewN ..⟩
end Go.Proofs.YtijhdlkfihjbiaaGreatDoor
/- The walks of quo.digit, quo.shifted and quo.Small. -/
namespace Go.Proofs.YtijhdlkfihjbiaaGreatDoor
open Go.RowKit

theorem short_lt {U G V W P : Nat} (h : U + G * V = W + P) (hU : U < P) : W < G * V := by omega
theorem came_round {U U2 G V W P : Nat} (h : U + G * V = W + P * 1) (h2 : U2 + P * 1 = U + V) (hG : 0 < G) : U2 + (G - 1) * V = W + P * 0 := by
  have : (G - 1) * V + V = G * V := by rw [← Nat.succ_mul]; congr 1; omega
  omega
theorem not_yet {U U2 G V W P : Nat} (h : U + G * V = W + P * 1) (h2 : U2 + P * 0 = U + V) (hG : 0 < G) : U2 + (G - 1) * V = W + P * 1 := by
  have : (G - 1) * V + V = G * V := by rw [← Nat.succ_mul]; congr 1; omega
  omega
theorem digit_end {U G V W P : Nat} (h : U + G * V = W + P * 0) (hge : W / V ≤ G) (hV : 0 < V) : G = W / V ∧ U = W % V := by
  rw [Nat.mul_zero, Nat.add_zero] at h
  have h1 : G * V ≤ W := by omega
  have h2 := quot_eq h1 hge hV
  refine ⟨h2, ?_⟩
  have h3 := Nat.div_add_mod' W V
  rw [← h2] at h3
  omega

set_option maxHeartbeats 2000000 in
/-- digit: how often the divisor goes into the window; the rest stays there. -/
theorem digit_any (w : World) (g t o c : Nat) (ps ws qs : List Nat) (b bo l d : Nat) (ds : List Nat) (hW : Win w w g t o ps ws qs) (hws : ws.length = l + 2) (hD : Lim w (some ⟨b, bo, none⟩) (l + 1) d ds) (hbg : b ≠ g) (hv : ds.getD l 0 ≠ 0) (hlt : val ws < val ds * 18446744073709551616) (hn : l ≤ 1000000) (Q : Nat) (hQ : Hid (val ws / val ds = Q)) :
    Calls Tryz.prog 110 #[.slice (some ⟨g, o, none⟩) ((l + 2 : Nat)) c, .slice (some ⟨b, bo, none⟩) ((l + 1 : Nat)) d] w fun e w' => ∃ us : List Nat, e = .returned (.int .u64 (Q : Int)) ∧ us.length = l + 2 ∧ Win w w' g t o ps us qs ∧ val us = val ws % val ds := by
  have HW := Lib.hid hW
  have HD := Lib.hid hD
  have Hws := Lib.hid hws
  have Hg := Lib.hid (guess_any w g t o c ps ws qs b bo l d ds hW hws hD hv hlt (by omega))
  have HV0 : Hid (0 < val ds) := by
    show 0 < _
    rw [ltop_one ds l hD.len]
    have := Nat.mul_pos (pw_pos l) (Nat.pos_of_ne_zero hv)
    omega
  clear hW hD hws hv hlt
  go_enter Tryz.func110, Tryz.ntmps110
  go_wp2_with fail
  refine Hg.out.mono ?_
  rintro e w1 ⟨G, k, rfl, hGb, hG, hw1⟩
  have HW1 : Hid (Win w w1 g t o ps ws qs) := by rw [hw1]; exact HW.out.drewN k
  have HG := Lib.hid hG
  rw [hQ.out] at HG
  clear hw1 hG Hg
  have Ht := Lib.hid (take_any w1 g t o c ps ws qs b bo (l + 1) d ds G ⟨But.refl _ _, HW1.out.2.1, HW1.out.2.2⟩ Hws.out (HD.out.but HW1.out.but hbg) hbg hGb (by omega))
  go_wp2_with fail
  refine Ht.out.mono ?_
  rintro e w2 ⟨us, tt, rfl, htt, hus, hW2, hE2⟩
  have HW2 : Hid (Win w w2 g t o ps us qs) := ⟨HW1.out.but.trans hW2.but, hW2.2.1, hW2.2.2⟩
  have Hus := Lib.hid hus
  have HE2 := Lib.hid hE2
  clear hW2 hus hE2 Ht HW1
  go_wp2_with fail
  go_loopw [5, 6] (fun s5 s6 wr => ∃ (G2 t2 : Nat) (us2 : List Nat), s5 = .int .u64 (G2 : Int) ∧ s6 = .bool (decide (0 < t2)) ∧ t2 ≤ 1 ∧ G2 < 18446744073709551616 ∧ Hid (us2.length = l + 2) ∧ Hid (Win w wr g t o ps us2 qs) ∧ Hid (Q ≤ G2) ∧ Hid (val us2 + G2 * val ds = val ws + pw (l + 2) * t2)) (fun s5 _ _ => (intOf s5).toNat)
  case atStart => exact ⟨G, tt, us, rfl, rfl, htt, hGb, Hus, HW2, HG, HE2⟩
  case round =>
    clear HW2 HE2 HG Hus
    obtain ⟨w3, rfl⟩ : ∃ w3, w3 = wr := ⟨_, rfl⟩
    obtain ⟨G2, t2, us2, rfl, rfl, ht2, hG2b, Hus2, HW2, HG2, HE2⟩ := hrel
    have h01 : t2 = 0 ∨ t2 = 1 := by omega
    rcases h01 with rfl | rfl
    · obtain ⟨h1, h2⟩ := digit_end HE2.out (by rw [hQ.out]; exact HG2.out) HV0.out
      rw [hQ.out] at h1
      have Hfin : Hid (∃ us : List Nat, us.length = l + 2 ∧ Win w w3 g t o ps us qs ∧ val us = val ws % val ds) := ⟨us2, Hus2.out, HW2.out, h2⟩
      subst h1
      clear h2 HE2 HG2
      go_wp2
      go_ret
      obtain ⟨vs, f1, f2, f3⟩ := Hfin.out
      exact ⟨vs, rfl, f1, f2, f3⟩
    · have hQG : Q < G2 := by
        have h1 := val_lt HW2.out.words
        rw [Hus2.out] at h1
        have h2 := HE2.out
        rw [Nat.mul_one] at h2
        rw [← hQ.out]
        exact quot_less (short_lt h2 h1) HV0.out
      have b1 : decide ((0 : Nat) < 1) = true := rfl
      have Hp := Lib.hid (put_any w3 g t o c ps us2 qs b bo (l + 1) d ds ⟨But.refl _ _, HW2.out.2.1, HW2.out.2.2⟩ Hus2.out (HD.out.but HW2.out.but hbg) hbg (by omega))
      rw [b1]
      go_wp2_with fail
      refine Hp.out.mono ?_
      rintro e w4 ⟨us3, t3, rfl, ht3, hus3, hW3, hE3⟩
      have HW3 : Hid (Win w w4 g t o ps us3 qs) := ⟨HW2.out.but.trans hW3.but, hW3.2.1, hW3.2.2⟩
      have Hus3 := Lib.hid hus3
      have HE3 := Lib.hid hE3
      clear hW3 hus3 hE3 Hp b1
      have h01 : t3 = 0 ∨ t3 = 1 := by omega
      rcases h01 with rfl | rfl
      · have HE4 := Lib.hid (not_yet HE2.out HE3.out (by omega))
        have HG4 : Hid (Q ≤ G2 - 1) := by show _ ≤ _; omega
        have b1 : decide ((0 : Nat) < 0) = false := rfl
        rw [b1]
        go_wp2
        go_roundw
        case rel => exact ⟨G2 - 1, 1, us3, by go_num, rfl, Nat.le_refl _, by omega, Hus3, HW3, HG4, HE4⟩
        case measure => simp [intOf]; omega
      · have HE4 := Lib.hid (came_round HE2.out HE3.out (by omega))
        have HG4 : Hid (Q ≤ G2 - 1) := by show _ ≤ _; omega
        have b1 : decide ((0 : Nat) < 1) = true := rfl
        rw [b1]
        go_wp2
        go_roundw
        case rel => exact ⟨G2 - 1, 0, us3, by go_num, rfl, Nat.zero_le _, by omega, Hus3, HW3, HG4, HE4⟩
        case measure => simp [intOf]; omega
theorem qshl_word (x q p : Nat) (hq : q < 2 ^ p) (hp : p < 64) : x % 2 ^ (64 - p) * 2 ^ p + q < 18446744073709551616 := by
  have h64 := pow64 (p := p) (by omega)
  have h2 : (x % 2 ^ (64 - p) + 1) * 2 ^ p ≤ 2 ^ (64 - p) * 2 ^ p := Nat.mul_le_mul_right _ (Nat.mod_lt _ (Nat.pow_pos (by decide)))
  rw [Nat.add_mul, Nat.one_mul, Nat.mul_comm (2 ^ (64 - p)), ← h64] at h2
  omega
theorem qshl_or (x q p : Nat) (hq : q < 2 ^ p) (hp : p < 64) :
    bits BinOp.or IntKind.u64 (q : Int) (IntKind.u64.wrap ((x : Int) * 2 ^ p)) = ((x % 2 ^ (64 - p) * 2 ^ p + q : Nat) : Int) := by
  have h64 := pow64 (p := p) (by omega)
  have e2 : IntKind.u64.wrap ((x : Int) * 2 ^ p) = ((x % 2 ^ (64 - p) * 2 ^ p : Nat) : Int) := by
    rw [IntKind.wrap_u64, show (x : Int) * 2 ^ p = ((x * 2 ^ p : Nat) : Int) from by simp]
    rw [show (18446744073709551616 : Int) = ((18446744073709551616 : Nat) : Int) from rfl, ← Int.natCast_emod, h64, Nat.mul_comm (2 ^ p), Nat.mul_mod_mul_right]
  have hw := qshl_word x q p hq hp
  rw [e2, bits_or_u64_nat _ _ (Nat.lt_of_le_of_lt (Nat.le_add_left _ _) hw) (Nat.lt_of_le_of_lt (Nat.le_add_right _ _) hw)]
  have e3 := Nat.shiftLeft_add_eq_or_of_lt hq (x % 2 ^ (64 - p))
  rw [Nat.shiftLeft_eq] at e3
  rw [Nat.or_comm, ← e3]
theorem qshl_carry (x p : Nat) (hx : x < 18446744073709551616) (hp : p < 64) : x / 2 ^ (64 - p) < 2 ^ p := by
  have h64 := pow64 (p := p) (by omega)
  rw [Nat.div_lt_iff_lt_mul (Nat.pow_pos (by decide)), ← h64]
  exact hx
theorem qshl_step {x q p wh k Z V : Nat} (hp : p < 64) (h : Z + pw (wh + k) * q = 2 ^ (64 * wh + p) * V) :
    Z + pw (wh + k) * (x % 2 ^ (64 - p) * 2 ^ p + q) + pw (wh + k + 1) * (x / 2 ^ (64 - p)) = 2 ^ (64 * wh + p) * (V + pw k * x) := by
  have h64 := pow64 (p := p) (by omega)
  have e1 : pw (wh + k + 1) * (x / 2 ^ (64 - p)) = pw (wh + k) * (2 ^ (64 - p) * (x / 2 ^ (64 - p)) * 2 ^ p) := by
    rw [pw_succ, h64]
    simp only [Nat.mul_assoc, Nat.mul_comm, Nat.mul_left_comm]
  have e2 : pw (wh + k) * (x % 2 ^ (64 - p) * 2 ^ p) + pw (wh + k) * (2 ^ (64 - p) * (x / 2 ^ (64 - p)) * 2 ^ p) = 2 ^ (64 * wh + p) * (pw k * x) := by
    rw [← Nat.mul_add, ← Nat.add_mul, Nat.mod_add_div, pw_add, pw_two wh, Nat.pow_add]
    simp only [Nat.mul_assoc, Nat.mul_comm, Nat.mul_left_comm]
  rw [e1, Nat.mul_add (pw (wh + k)), Nat.mul_add (2 ^ (64 * wh + p)), ← e2, ← h]
  omega

theorem Fill.holds {w wr : World} {g t L : Nat} {zs : List Nat} (h : Fill w wr g t L zs) (hl : zs.length = L) : Holds wr g t zs := ⟨by rw [hl]; exact h.2.1, h.2.2.2⟩
theorem Fill.nought {w : World} {t L : Nat} (hL : 0 < L) : Fill w (w.alloc (.cells (madeCells #[.int .u64 0] L) t)) w.heap.size t L ([] ++ [0]) :=
  ⟨(Below.refl _ _).alloc (Nat.le_refl _) _, (World.rowIs_made w (.int .u64 0) L t).congr (fun j _ => by
    cases j <;> simp), by simp; omega, Words.one (by decide)⟩

set_option maxHeartbeats 2000000 in
/-- shifted: a times 2^p in new memory, one limb longer. -/
theorem shifted_any (A : Option Addr) (n c : Nat) (xs : List Nat) (p : Nat) (w : World) (hA : Lim w A n c xs) (hn : n ≤ 1000000) (hp : p < 64) :
    Calls Tryz.prog 109 #[.slice A n c, .int .i64 (p : Int)] w fun e w' => ∃ zs : List Nat, e = .returned (.slice (some ⟨w.heap.size, 0, none⟩) (n + 1 : Nat) (n + 1 : Nat)) ∧ zs.length = n + 1 ∧ Holds w' w.heap.size 46 zs ∧ Below w.heap.size w w' ∧ val zs = val xs * 2 ^ p := by
  have HA := Lib.hid hA
  have hmk := run_make_row' (P := Tryz.prog) 22 46 (.int .u64 0) 8 Tryz.underlying22 info64 rfl .i64 .i64 (n + 1) (by omega) (by omega)
  rw [show ((n + 1 : Nat) : Int) = (n : Int) + 1 from by omega] at hmk
  have HN : Hid (0 + 0 = 0) := rfl
  clear hA
  go_enter Tryz.func109, Tryz.ntmps109
  go_wp2
  clear hmk
  go_loopw [14] (fun i wr => ∃ (k q : Nat) (zs : List Nat), k ≤ n ∧ i = .int .i64 k ∧ Hid (zs.length = k) ∧ q < 2 ^ p ∧ Fill w wr w.heap.size 46 (n + 1) (zs ++ [q]) ∧ Hid (val zs + pw k * q = 2 ^ p * val (xs.take k))) (fun i _ => n - (intOf i).toNat)
  case atStart => exact ⟨0, 0, [], Nat.zero_le _, rfl, rfl, Nat.pow_pos (by decide), Fill.nought (by omega), by simp [Hid, val]⟩
  case round =>
    obtain ⟨w1, rfl⟩ : ∃ w1, w1 = wr := ⟨_, rfl⟩
    obtain ⟨k, q, zs, hk, rfl, Hzl, hq, hF, HE⟩ := hrel
    by_cases hkl : k < n
    · obtain ⟨b, o, hAe, hb, hcl⟩ := HA.out.at_ (by omega)
      subst hAe
      have c1 := (hF.below.cell (p := ⟨b, o + k, none⟩) hb).trans (hcl k hkl)
      clear hcl
      have c2 := hF.cell (j := k) (by omega)
      rw [getD_snoc, if_pos Hzl.out.symm] at c2
      have c3 := hF.frozen k
      have c4 := hF.cell (j := k + 1) (by omega)
      have c5 := hF.frozen (k + 1)
      have hxw := HA.out.words.getD k
      obtain ⟨x, hx⟩ : ∃ x, xs.getD k 0 = x := ⟨_, rfl⟩
      rw [hx] at c1 hxw
      have d7 : IntKind.i64.wrap (64 - (p : Int)) = ((64 - p : Nat) : Int) := by rw [IntWalk.i64_in _ (by omega)]; omega
      have d8 : (64 : Int) - (p : Int) = ((64 - p : Nat) : Int) := by omega
      have HE2 := Lib.hid (qshl_step (x := x) (wh := 0) hp (show val zs + pw (0 + k) * q = 2 ^ (64 * 0 + p) * val (xs.take k) by rw [Nat.zero_add, Nat.mul_zero, Nat.zero_add]; exact HE.out))
      have hqq := qshl_carry x p hxw hp
      have HF1 := Lib.hid ((hF.again Hzl.out.symm (qshl_word x q p hq hp)).push (z := x / 2 ^ (64 - p)) (k := k + 1) (by have := Hzl.out; simp; omega) (by omega) (by
        have h64 := pow64 (p := p) (by omega)
        have : 2 ^ p * 1 ≤ 2 ^ p * 2 ^ (64 - p) := Nat.mul_le_mul_left _ (Nat.pow_pos (by decide))
        omega))
      have Hx := Lib.hid hx
      have Hor := Lib.hid (qshl_or x q p hq hp)
      have Hq := Lib.hid hq
      clear hx HE hF hq
      go_wp2
      go_region
      go_wp2
      go_roundw
      case rel =>
        refine ⟨k + 1, x / 2 ^ (64 - p), zs ++ [x % 2 ^ (64 - p) * 2 ^ p + q], by omega, by go_num, ?_, hqq, ?_, ?_⟩
        · have := Hzl.out; simp [Hid]; omega
        · rw [Hor.out, show (x : Int) / 2 ^ (64 - p) = ((x / 2 ^ (64 - p) : Nat) : Int) from by simp]
          exact HF1.out.drewN 1
        · have e := HE2.out
          rw [Nat.zero_add, Nat.mul_zero, Nat.zero_add] at e
          rw [val_snoc, Hzl.out, val_take_succ', Hx.out]
          exact e
      case measure => simp [intOf]; omega
    · obtain rfl : k = n := by omega
      have Hfin : Hid (∃ zs : List Nat, zs.length = k + 1 ∧ Holds w1 w.heap.size 46 zs ∧ Below w.heap.size w w1 ∧ val zs = val xs * 2 ^ p) := by
        refine ⟨zs ++ [q], by have := Hzl.out; simp; omega, hF.holds (by have := Hzl.out; simp; omega), hF.below, ?_⟩
        rw [val_snoc, Hzl.out]
        refine HE.out.trans ?_
        rw [List.take_of_length_le (by have := HA.out.len; omega), Nat.mul_comm]
      clear HE hF
      go_wp2
      go_ret
      obtain ⟨vs, f1, f2, f3, f4⟩ := Hfin.out
      exact ⟨vs, rfl, f1, f2, f3, f4⟩

/-- A number, and two values behind it. -/
def Tells3 (w : World) (V L : Nat) (u v : Value) (e : Ending) (w' : World) : Prop :=
  ∃ A m c zs, e = .returned (.tuple #[.slice A m c, u, v]) ∧ m ≤ L ∧ Lim w' A m c zs ∧ Bare zs ∧ val zs = V ∧ Below w.heap.size w w'

theorem Holds.start (w : World) (t L : Nat) : Holds (w.alloc (.cells (madeCells #[.int .u64 0] L) t)) w.heap.size t (List.replicate L 0) :=
  ⟨by
    rw [List.length_replicate]
    exact (World.rowIs_made w (.int .u64 0) L t).congr (fun j hj => by rw [List.getD_eq_getElem?_getD, List.getElem?_replicate, if_pos hj]; rfl), fun x hx => by rw [(List.mem_replicate.1 hx).2]; decide⟩
theorem getD_zeros (L j : Nat) : (List.replicate L 0).getD j 0 = 0 := by
  rw [List.getD_eq_getElem?_getD, List.getElem?_replicate]; split <;> rfl
theorem small_step {N Z Z2 i rest x q r V T : Nat} (hd : rest * 18446744073709551616 + x = q * N + r) (hset : Z2 + pw i * 0 = Z + pw i * q) (h : N * Z + (pw (i + 1) * rest + (T + pw i * x)) = V) : N * Z2 + (pw i * r + T) = V := by
  have e : pw (i + 1) * rest = pw i * (rest * 18446744073709551616) := by rw [pw_succ, Nat.mul_comm 18446744073709551616, Nat.mul_assoc, Nat.mul_comm 18446744073709551616]
  have e2 : pw i * (rest * 18446744073709551616 + x) = pw i * (q * N + r) := by rw [hd]
  have e3 : Z2 = Z + pw i * q := by rw [Nat.mul_zero, Nat.add_zero] at hset; exact hset
  rw [Nat.mul_add, Nat.mul_add] at e2
  have e4 : N * (Z + pw i * q) = N * Z + pw i * (q * N) := by rw [Nat.mul_add, Nat.mul_left_comm, Nat.mul_comm N q]
  rw [e3, e4]
  rw [e] at h
  omega
theorem small_end {N Z rest V : Nat} (h : N * Z + (pw 0 * rest + 0) = V) (hr : rest < N) : V / N = Z ∧ V % N = rest := by
  rw [pw_zero, Nat.one_mul, Nat.add_zero] at h
  have hN : 0 < N := by omega
  refine ⟨?_, ?_⟩
  · rw [← h, Nat.add_comm, Nat.add_mul_div_left _ _ hN, Nat.div_eq_of_lt hr, Nat.zero_add]
  · rw [← h, Nat.add_comm, Nat.add_mul_mod_self_left, Nat.mod_eq_of_lt hr]

set_option maxHeartbeats 2000000 in
theorem small_any (A : Option Addr) (n c : Nat) (xs : List Nat) (N : Nat) (w : World) (hA : Lim w A n c xs) (hn : n ≤ 1000000) (hN0 : 0 < N) (hN : N < 18446744073709551616) (R : Nat) (hR : Hid (val xs % N = R)) :
    Calls Tryz.prog 99 #[.slice A n c, .int .u64 (N : Int)] w (Tells3 w (val xs / N) n (.int .u64 (R : Int)) (.int .i64 0)) := by
  have hP := hA.trim
  have HX := Lib.hid (val_take_tl xs)
  have l1 := hA.tl_le
  obtain ⟨la, hla⟩ : ∃ l, tl xs = l := ⟨_, rfl⟩
  rw [hla] at l1 hP HX
  have Hla := Lib.hid hla
  clear hla
  generalize xs.take la = ps at hP HX
  have HP := Lib.hid hP
  have HA := Lib.hid hA
  have hmk := run_make_row' (P := Tryz.prog) 22 46 (.int .u64 0) 8 Tryz.underlying22 info64 rfl .i64 .i64 la (by omega) (by omega)
  have b0 : ((N : Int) == 0) = false := beq_eq_false_iff_ne.2 (by omega)
  clear hP hA
  go_enter Tryz.func99, Tryz.ntmps99
  go_wp2_with fail
  refine (qbare_any la A n c xs _ HA.out (by omega) Hla).mono ?_
  rintro e w' ⟨rfl, rfl⟩
  go_wp2
  clear hmk b0
  go_loopw [8, 9] (fun s8 i wr => ∃ (j rest : Nat) (zs : List Nat), j ≤ la ∧ i = .int .i64 ((j : Int) - 1) ∧ s8 = .int .u64 (rest : Int) ∧ rest < N ∧ Hid (zs.length = la) ∧ Hid (Holds wr w.heap.size 46 zs) ∧ Hid (Below w.heap.size w wr) ∧ Hid (∀ k, k < j → zs.getD k 0 = 0) ∧ Hid (N * val zs + (pw j * rest + val (ps.take j)) = val ps)) (fun _ i _ => (intOf i + 1).toNat)
  case atStart => exact ⟨la, 0, List.replicate la 0, Nat.le_refl _, rfl, rfl, hN0, List.length_replicate, Holds.start w _ _, (Below.refl _ _).alloc (Nat.le_refl _) _, fun k _ => getD_zeros _ _, by
    rw [val_zeros, Nat.mul_zero, Nat.mul_zero, Nat.zero_add, Nat.zero_add, List.take_of_length_le (by have := HP.out.len; omega)]; rfl⟩
  case round =>
    obtain ⟨w1, rfl⟩ : ∃ w1, w1 = wr := ⟨_, rfl⟩
    obtain ⟨j, rest, zs, hj, rfl, rfl, hrest, Hzl, HH, HB, HZ, HE⟩ := hrel
    by_cases hj0 : 0 < j
    · obtain ⟨i, rfl⟩ : ∃ i, j = i + 1 := ⟨j - 1, by omega⟩
      obtain ⟨b, o, hAe, hb, hcl⟩ := HP.out.at_ (by omega)
      subst hAe
      have c1 := (HB.out.cell (p := ⟨b, o + i, none⟩) hb).trans (hcl i (by omega))
      clear hcl
      have hxw := HP.out.words.getD i
      have c2 := HH.out.cell (j := i) (by have := Hzl.out; omega)
      have c3 := HH.out.frozen i
      have ht := val_take_succ' ps i
      obtain ⟨x, hx⟩ : ∃ x, ps.getD i 0 = x := ⟨_, rfl⟩
      rw [hx] at c1 hxw ht
      obtain ⟨q, r, hd, hr⟩ : ∃ q r, rest * 18446744073709551616 + x = q * N + r ∧ r < N := ⟨(rest * 18446744073709551616 + x) / N, (rest * 18446744073709551616 + x) % N, (Nat.div_add_mod' _ _).symm, Nat.mod_lt _ hN0⟩
      have hq : q < 18446744073709551616 := by
        rcases Nat.lt_or_ge q 18446744073709551616 with h | h
        · exact h
        · have h1 : 18446744073709551616 * N ≤ q * N := Nat.mul_le_mul_right _ h
          omega
      have Hdiv := Lib.hid (div64_any rest x N q r w1 hrest hxw hN hr hd)
      have HH2 := Lib.hid (fun k => (HH.out.drewN k).set (k := i) (z := q) (by have := Hzl.out; omega) hq)
      have HB2 := Lib.hid (fun k => (below_drewN HB.out k).setCell (p := ⟨w.heap.size, i, none⟩) (Nat.le_refl _) (.int .u64 (q : Int)))
      have Hl2 : Hid ((zs.set i q).length = la) := by rw [List.length_set]; exact Hzl
      have HZ2 : Hid (∀ k, k < i → (zs.set i q).getD k 0 = 0) := fun k hk => by
        rw [getD_set' zs i q k (by have := Hzl.out; omega), if_neg (by omega)]
        exact HZ.out k (by omega)
      have HE2 : Hid (N * val (zs.set i q) + (pw i * r + val (ps.take i)) = val ps) := by
        have h1 := val_set zs i q (by have := Hzl.out; omega)
        rw [HZ.out i (by omega)] at h1
        have h2 := HE.out
        rw [ht] at h2
        exact small_step hd h1 h2
      have e1 : ((i + 1 : Nat) : Int) - 1 = (i : Int) := by omega
      rw [e1]
      clear hd HE ht hx e1 hj0
      go_wp2_with fail
      refine Hdiv.out.mono ?_
      rintro e w2 ⟨rfl, k, rfl⟩
      have HH3 := Lib.hid (HH2.out k)
      have HB3 := Lib.hid (HB2.out k)
      clear HH2 HB2
      go_wp2
      go_roundw
      case rel => exact ⟨i, r, zs.set i q, by omega, by go_num, rfl, hr, Hl2, HH3, HB3, HZ2, HE2⟩
      case measure => simp [intOf]
    · obtain rfl : j = 0 := by omega
      obtain ⟨h1, h2⟩ := small_end HE.out hrest
      rw [HX.out] at h1 h2
      obtain rfl : rest = R := by rw [← hR.out]; exact h2.symm
      have hlim := HH.out.lim
      rw [Hzl.out] at hlim
      have HV := Lib.hid h1.symm
      clear h1 h2 HE
      have HB1 := HB.out
      go_wp2_with fail
      refine (qbare_any (tl zs) _ _ _ zs _ hlim (by omega) rfl).mono ?_
      rintro e w' ⟨rfl, rfl⟩
      go_wp2
      go_ret3
      exact ⟨_, _, _, _, rfl, Nat.le_trans hlim.tl_le l1, hlim.trim, bare_take zs, by rw [val_take_tl]; exact HV.out, HB1⟩

end Go.Proofs.YtijhdlkfihjbiaaGreatDoor
/- The walk of quo.long: the quotient and the rest of any two numbers. -/
namespace Go.Proofs.YtijhdlkfihjbiaaGreatDoor
open Go.RowKit

/-- Two numbers. -/
def TellsQ (w : World) (Q R L M : Nat) (e : Ending) (w' : World) : Prop :=
  ∃ A m c zs A' m' c' ys, e = .returned (.tuple #[.slice A m c, .slice A' m' c']) ∧ m ≤ L ∧ m' ≤ M ∧ Lim w' A m c zs ∧ Lim w' A' m' c' ys ∧ Bare zs ∧ Bare ys ∧ val zs = Q ∧ val ys = R ∧ Below w.heap.size w w'

/-- The moved divisor has as many limbs, and its top one isn't 0. -/
theorem moved_divisor {ys zs : List Nat} {l s : Nat} (hy : Words ys) (hyl : ys.length = l + 1) (hv : ys.getD l 0 ≠ 0) (hs : s + blen (ys.getD l 0) = 64) (hz : Words zs) (hzl : zs.length = l + 2) (h : val zs = val ys * 2 ^ s) :
    val (zs.take (l + 1)) = val ys * 2 ^ s ∧ (zs.take (l + 1)).getD l 0 ≠ 0 ∧ pw l * 2 ^ s ≤ val ys * 2 ^ s := by
  have h1 := ltop_one ys l hyl
  have hlo := val_lt (hy.take l)
  rw [List.length_take, Nat.min_eq_left (by omega)] at hlo
  generalize ys.getD l 0 = v at hv hs h1
  rw [pw_two] at hlo h1
  have hb : blen (val ys) = 64 * l + blen v := by rw [h1]; exact blen_last hlo hv
  have hb1 := blen_pos hv
  have hne : val ys ≠ 0 := fun h0 => by rw [h0, blen_zero] at hb; omega
  have h2 : val ys * 2 ^ s < pw (l + 1) := by
    have := Nat.mul_lt_mul_of_pos_right (lt_blen (val ys)) (Nat.pow_pos (n := s) (show 0 < 2 by decide))
    rw [← Nat.pow_add, hb, show 64 * l + blen v + s = 64 * (l + 1) from by omega, ← pw_two] at this
    exact this
  have h3 : pw l ≤ val ys * 2 ^ s := by
    have := Nat.mul_le_mul_right (2 ^ s) (blen_le hne)
    rw [← Nat.pow_add, hb, show 64 * l + blen v - 1 + s = 64 * l + 63 from by omega, Nat.pow_add, ← pw_two] at this
    have h4 : pw l * 1 ≤ pw l * 2 ^ 63 := Nat.mul_le_mul_left _ (by decide)
    omega
  have h4 := val_take_succ zs (l + 1) (by omega)
  rw [List.take_of_length_le (by omega)] at h4
  have h5 : zs.getD (l + 1) 0 = 0 := by
    rcases Nat.eq_zero_or_pos (zs.getD (l + 1) 0) with h0 | h0
    · exact h0
    · have : pw (l + 1) * 1 ≤ pw (l + 1) * zs.getD (l + 1) 0 := Nat.mul_le_mul_left _ h0
      omega
  rw [h5, Nat.mul_zero, Nat.add_zero, h] at h4
  refine ⟨h4.symm, fun h0 => ?_, Nat.mul_le_mul_right _ ?_⟩
  · have h6 := ltop_one (zs.take (l + 1)) l (by rw [List.length_take]; omega)
    have h7 := val_lt ((hz.take (l + 1)).take l)
    rw [List.length_take, List.length_take, Nat.min_eq_left (by omega)] at h7
    rw [h0, Nat.mul_zero, Nat.add_zero, ← h4] at h6
    omega
  · rw [h1, pw_two]
    have : 2 ^ (64 * l) * 1 ≤ 2 ^ (64 * l) * v := Nat.mul_le_mul_left _ (Nat.pos_of_ne_zero hv)
    omega
/-- At first what lies above is less than the divisor. -/
theorem long_start {xs ls : List Nat} {L l s D : Nat} (hx : Words xs) (hxl : xs.length = L + l) (hll : ls.length = L + l + 1) (h : val ls = val xs * 2 ^ s) (hD : pw l * 2 ^ s ≤ D) : val (ls.drop L) < D := by
  have h1 := val_lt hx
  have h2 := val_split ls L (by omega)
  rw [hxl, pw_add] at h1
  have h3 : val xs * 2 ^ s < pw L * pw l * 2 ^ s := Nat.mul_lt_mul_of_pos_right h1 (Nat.pow_pos (by decide))
  rw [Nat.mul_assoc] at h3
  have h4 : pw L * (pw l * 2 ^ s) ≤ pw L * D := Nat.mul_le_mul_left _ hD
  have h5 : pw L * val (ls.drop L) < pw L * D := by omega
  exact Nat.lt_of_mul_lt_mul_left h5
/-- The window of a round. -/
theorem long_window {ls : List Nat} {i m D : Nat} (hw : Words ls) (hl : i + m + 1 ≤ ls.length) (h : val (ls.drop (i + 1)) < D) (hD : D ≤ pw m) :
    val (ls.drop (i + (m + 1))) = 0 ∧ val ((ls.drop i).take (m + 1)) < D * 18446744073709551616 := by
  have h1 := val_split (ls.drop (i + 1)) m (by rw [List.length_drop]; omega)
  rw [List.drop_drop] at h1
  have h2 : val (ls.drop (i + 1 + m)) = 0 := by
    rcases Nat.eq_zero_or_pos (val (ls.drop (i + 1 + m))) with h0 | h0
    · exact h0
    · have : pw m * 1 ≤ pw m * val (ls.drop (i + 1 + m)) := Nat.mul_le_mul_left _ h0
      omega
  rw [show i + (m + 1) = i + 1 + m from by omega]
  refine ⟨h2, ?_⟩
  have h3 := val_split (ls.drop i) (m + 1) (by rw [List.length_drop]; omega)
  rw [List.drop_drop, show i + (m + 1) = i + 1 + m from by omega, h2, Nat.mul_zero, Nat.add_zero, drop_cons ls i (by omega), val] at h3
  rw [drop_cons ls i (by omega), ← h3]
  have h4 := hw.getD i
  omega
theorem qparts (ls : List Nat) (i k : Nat) : ls = ls.take i ++ ((ls.drop i).take k ++ ls.drop (i + k)) := by
  rw [← List.drop_drop, List.take_append_drop, List.take_append_drop]
/-- A round's end. -/
theorem long_step {ps ws us rs qs : List Nat} {i k D A Q : Nat} (hps : ps.length = i) (hws : ws.length = k) (hus : us.length = k) (hu : val us = val ws % D) (hQ : val ws / D = Q) (hset : val (qs.set i Q) + pw i * 0 = val qs + pw i * Q) (h : val (ps ++ (ws ++ rs)) + D * val qs = A) :
    val (ps ++ (us ++ rs)) + D * val (qs.set i Q) = A := by
  rw [val_append, val_append, hps, hws] at h
  rw [val_append, val_append, hps, hus]
  have h1 := Nat.div_add_mod' (val ws) D
  rw [hQ, ← hu] at h1
  rw [Nat.mul_zero, Nat.add_zero] at hset
  rw [hset, Nat.mul_add D, Nat.mul_add (pw i)]
  rw [Nat.mul_add (pw i), ← h1, Nat.mul_add (pw i)] at h
  have e : D * (pw i * Q) = pw i * (Q * D) := by rw [Nat.mul_left_comm, Nat.mul_comm D]
  omega
/-- The end: quotient and rest. -/
theorem long_end {ls qs : List Nat} {a b T m : Nat} (hT : 0 < T) (h : val ls + b * T * val qs = a * T) (hlt : val ls < b * T) (hD : b * T ≤ pw m) (hm : m ≤ ls.length) : val qs = a / b ∧ val (ls.take m) / T = a % b := by
  have hb : 0 < b := by
    rcases Nat.eq_zero_or_pos b with h0 | h0
    · rw [h0, Nat.zero_mul] at hlt; omega
    · exact h0
  have h1 := val_split ls m hm
  have h2 : val (ls.drop m) = 0 := by
    rcases Nat.eq_zero_or_pos (val (ls.drop m)) with h0 | h0
    · exact h0
    · have : pw m * 1 ≤ pw m * val (ls.drop m) := Nat.mul_le_mul_left _ h0
      omega
  rw [h2, Nat.mul_zero, Nat.add_zero] at h1
  have e : b * T * val qs = val qs * b * T := by rw [Nat.mul_comm (b * T), Nat.mul_assoc]
  rw [e] at h
  have h3 : val qs * b ≤ a := by
    have : val qs * b * T ≤ a * T := by omega
    exact Nat.le_of_mul_le_mul_right this hT
  have h4 : val ls = (a - val qs * b) * T := by rw [Nat.sub_mul]; omega
  have h5 : a - val qs * b < b := by
    rw [h4] at hlt
    exact Nat.lt_of_mul_lt_mul_right hlt
  have h6 : a / b = val qs := by
    have : a = (a - val qs * b) + val qs * b := by omega
    rw [this, Nat.add_mul_div_right _ _ hb, Nat.div_eq_of_lt h5, Nat.zero_add]
  refine ⟨h6.symm, ?_⟩
  rw [← h1, h4, Nat.mul_div_cancel _ hT]
  have h7 := Nat.div_add_mod' a b
  rw [h6] at h7
  omega

theorem Holds.other {w : World} {g t : Nat} {ls : List Nat} (h : Holds w g t ls) {p : Addr} (hp : g ≠ p.block) (v : Value) : Holds (w.setCell p v) g t ls := ⟨h.1.setOther hp v, h.2⟩
theorem Lim.other {w : World} {b o n c : Nat} {xs : List Nat} (h : Lim w (some ⟨b, o, none⟩) n c xs) {p : Addr} (hp : b ≠ p.block) (v : Value) : Lim (w.setCell p v) (some ⟨b, o, none⟩) n c xs :=
  ⟨h.1, h.2.1, h.2.2.1, fun hn => by
    obtain ⟨b', o', e, hl, hc⟩ := h.at_ hn
    cases e
    exact ⟨b, o, rfl, by simpa [World.setCell] using hl, fun k hk => by
      rw [World.cell?_setCell_other _ _ _ _ (fun e => hp (congrArg Addr.block e).symm)]; exact hc k hk⟩⟩

set_option maxHeartbeats 4000000 in
set_option maxRecDepth 100000 in
theorem long_any (A : Option Addr) (n c : Nat) (xs : List Nat) (B : Option Addr) (l d : Nat) (ys : List Nat) (w : World) (hA : Lim w A n c xs) (hB : Lim w B (l + 1) d ys) (hv : ys.getD l 0 ≠ 0) (hn : n ≤ 1000000) (hle : l + 1 ≤ n) (hT : Tab w) :
    Calls Tryz.prog 100 #[.slice A n c, .slice B ((l + 1 : Nat)) d] w (TellsQ w (val xs / val ys) (val xs % val ys) n n) := by
  obtain ⟨L, hL⟩ : ∃ L, n = L + l := ⟨n - l, by omega⟩
  have hL0 : 0 < L := by omega
  have HA := Lib.hid hA
  have HB := Lib.hid hB
  have HT := Lib.hid hT
  obtain ⟨b, o, hBe, hb, hcl⟩ := hB.at_ (by omega)
  have c1 := hcl l (by omega)
  have hvw := hB.words.getD l
  have hyl := hB.len
  obtain ⟨v, hve⟩ : ∃ v, ys.getD l 0 = v := ⟨_, rfl⟩
  have Hve := Lib.hid hve
  rw [hve] at c1 hvw hv
  obtain ⟨s, hs⟩ : ∃ s, s + blen v = 64 := ⟨64 - blen v, by have := blen_le_iff.2 (show v < 2 ^ 64 from hvw); omega⟩
  have hs64 : s < 64 := by have := blen_pos hv; omega
  have Hlead := Lib.hid (leadz_any v s w hvw hs)
  have Hs := Lib.hid hs
  have Hv := Lib.hid hv
  have HL := Lib.hid hL
  clear hcl hve hs hA hB hT hyl hv
  subst hBe
  have Hsh1 := Lib.hid (shifted_any _ (l + 1) d ys s w HB.out (by omega) hs64)
  have e1 : (n : Int) - ((l : Int) + 1) + 1 = (L : Int) := by omega
  have e2 : (n : Int) - (l + 1 : Nat) + 1 = (L : Int) := by omega
  have e3 : (n : Int) - (l : Int) = (L : Int) := by omega
  have hmk := run_make_row' (P := Tryz.prog) 22 46 (.int .u64 0) 8 Tryz.underlying22 info64 rfl .i64 .i64 L (by omega) (by omega)
  clear hL
  go_enter Tryz.func100, Tryz.ntmps100
  go_wp2_with fail
  refine Hlead.out.mono ?_
  rintro e w' ⟨rfl, rfl⟩
  go_wp2_with fail
  refine Hsh1.out.mono ?_
  rintro e w1 ⟨z1, rfl, hz1, hh1, hb1, hv1⟩
  have hg1 := hh1.lt
  have Hmd : Hid _ := Lib.hid (moved_divisor HB.out.words HB.out.len (by rw [Hve.out]; exact Hv.out) (by rw [Hve.out]; exact Hs.out) hh1.2 hz1 hv1)
  have hds : Lim w1 (some ⟨w.heap.size, 0, none⟩) (l + 1) (l + 1 + 1) (z1.take (l + 1)) := by
    have := hh1.lim
    rw [hz1] at this
    exact this.take (by omega)
  have Hds := Lib.hid hds
  have Hb1 := Lib.hid hb1
  have Hsh2 := Lib.hid (shifted_any A n c xs s w1 (HA.out.below hb1) hn hs64)
  clear hh1 hb1 hv1 hds Hsh1 hz1
  go_wp2_with fail
  refine Hsh2.out.mono ?_
  rintro e w2 ⟨z2, rfl, hz2, hh2, hb2, hv2⟩
  have hg2 := hh2.lt
  have Hds2 := Lib.hid (Hds.out.below hb2)
  have Hb2 := Lib.hid (Hb1.out.trans (hb2.mono (by omega)))
  obtain ⟨m1, m2, m3⟩ := Hmd.out
  have hst := long_start (L := L) HA.out.words (by rw [HA.out.len]; exact HL.out) (by rw [hz2, HL.out]) hv2 m3
  obtain ⟨ds, hds⟩ : ∃ ds, z1.take (l + 1) = ds := ⟨_, rfl⟩
  rw [hds] at m1 m2 Hds2
  have HD1 := Lib.hid m1
  have HD2 := Lib.hid m2
  have hdw := Hds2.out.words
  have hdl := Hds2.out.len
  have HDp : Hid (val ds ≤ pw (l + 1)) := by
    have := val_lt hdw
    rw [hdl] at this
    exact Nat.le_of_lt this
  rw [← m1] at hst
  have Hst := Lib.hid hst
  have HV2 := Lib.hid hv2
  have Hz2 := Lib.hid hz2
  have Hh2 := Lib.hid hh2
  have HP : Hid (0 < 2 ^ s) := Nat.pow_pos (by decide)
  clear m1 m2 m3 hst hds hdw hdl hv2 hz2 hh2 hb2 Hds Hb1 Hsh2 Hmd Hlead
  go_wp2
  clear hmk e1 e2 e3 c1
  go_loopw [9] (fun i wr => ∃ (j : Nat) (ls qs : List Nat), j ≤ L ∧ i = .int .i64 ((j : Int) - 1) ∧ Hid (ls.length = n + 1) ∧ Hid (qs.length = L) ∧ Hid (Holds wr w1.heap.size 46 ls) ∧ Hid (Holds wr w2.heap.size 46 qs) ∧ Hid (Below w.heap.size w wr) ∧ Hid (Lim wr (some ⟨w.heap.size, 0, none⟩) (l + 1) (l + 1 + 1) ds) ∧ Hid (∀ k, k < j → qs.getD k 0 = 0) ∧ Hid (val ls + val ds * val qs = val xs * 2 ^ s) ∧ Hid (val (ls.drop j) < val ds)) (fun i _ => (intOf i + 1).toNat)
  case atStart => exact ⟨L, z2, List.replicate L 0, Nat.le_refl _, by go_num, Hz2, List.length_replicate, ⟨Hh2.out.1.alloc _, Hh2.out.2⟩, Holds.start w2 _ _, Hb2.out.alloc Hb2.out.size _, Hds2.out.alloc _, fun k _ => getD_zeros _ _, by rw [val_zeros, Nat.mul_zero, Nat.add_zero]; exact HV2, Hst⟩
  case round =>
    obtain ⟨w3, rfl⟩ : ∃ w3, w3 = wr := ⟨_, rfl⟩
    obtain ⟨j, ls, qs, hj, rfl, Hll, Hql, HH2, HH3, HB3, HD3, HZ, HE, HS⟩ := hrel
    by_cases hj0 : 0 < j
    · obtain ⟨i, rfl⟩ : ∃ i, j = i + 1 := ⟨j - 1, by omega⟩
      have hin : i + l + 1 ≤ n := by have := HL.out; omega
      obtain ⟨k1, k2⟩ := long_window (i := i) (m := l + 1) HH2.out.2 (by have := Hll.out; omega) HS.out HDp.out
      have hpt := qparts ls i (l + 2)
      obtain ⟨ps, hps⟩ : ∃ ps, ls.take i = ps := ⟨_, rfl⟩
      obtain ⟨ws, hws⟩ : ∃ ws, (ls.drop i).take (l + 2) = ws := ⟨_, rfl⟩
      obtain ⟨rs, hrs⟩ : ∃ rs, ls.drop (i + (l + 2)) = rs := ⟨_, rfl⟩
      have hpl : ps.length = i := by rw [← hps, List.length_take]; have := Hll.out; omega
      have hwl : ws.length = l + 2 := by rw [← hws, List.length_take, List.length_drop]; have := Hll.out; omega
      rw [hps, hws, hrs] at hpt
      have k1' : val rs = 0 := by rw [← hrs]; exact k1
      have k2' : val ws < val ds * 18446744073709551616 := by rw [← hws]; exact k2
      have hwin : Win w3 w3 w1.heap.size 46 i ps ws rs := ⟨But.refl _ _, by rw [← hpt]; exact HH2.out, hpl⟩
      obtain ⟨Q, hQ⟩ : ∃ Q, val ws / val ds = Q := ⟨_, rfl⟩
      have hQb : Q < 18446744073709551616 := by
        rw [← hQ]
        exact Nat.div_lt_of_lt_mul k2'
      have Hdig := Lib.hid (digit_any w3 w1.heap.size 46 i (n + 1 - i) ps ws rs w.heap.size 0 l (l + 1 + 1) ds hwin hwl HD3.out (by omega) HD2.out k2' (by omega) Q hQ)
      have e1 : ((i + 1 : Nat) : Int) - 1 = (i : Int) := by omega
      rw [e1]
      have Hpt := Lib.hid hpt
      have Hpl := Lib.hid hpl
      have Hwl := Lib.hid hwl
      have Hk1 := Lib.hid k1'
      have HQ := Lib.hid hQ
      clear k1 k2 k1' k2' hps hws hrs hpt hpl hwl hwin hQ e1 hj0
      go_wp2_with fail
      rw [show i + (l + 1) + 1 - i = l + 2 from by omega]
      refine Hdig.out.mono ?_
      rintro e w4 ⟨us, rfl, hus, hW4, hu⟩
      have hH3 := HH3.out.but hW4.but (by omega)
      have c2 := hH3.cell (j := i) (by have := Hql.out; omega)
      have c3 := hH3.frozen i
      have HH4 : Hid (Holds (w4.setCell ⟨w2.heap.size, i, none⟩ (.int .u64 (Q : Int))) w1.heap.size 46 (ps ++ (us ++ rs))) := hW4.2.1.other (by show w1.heap.size ≠ w2.heap.size; omega) _
      have HH5 : Hid (Holds (w4.setCell ⟨w2.heap.size, i, none⟩ (.int .u64 (Q : Int))) w2.heap.size 46 (qs.set i Q)) := hH3.set (by have := Hql.out; omega) hQb
      have HB5 : Hid (Below w.heap.size w (w4.setCell ⟨w2.heap.size, i, none⟩ (.int .u64 (Q : Int)))) := (HB3.out.trans (hW4.but.below (by omega))).setCell (by show w.heap.size ≤ w2.heap.size; omega) _
      have HD5 : Hid (Lim (w4.setCell ⟨w2.heap.size, i, none⟩ (.int .u64 (Q : Int))) (some ⟨w.heap.size, 0, none⟩) (l + 1) (l + 1 + 1) ds) := (HD3.out.but hW4.but (by omega)).other (by show w.heap.size ≠ w2.heap.size; omega) _
      have Hl5 : Hid ((ps ++ (us ++ rs)).length = n + 1) := by
        have h1 := congrArg List.length Hpt.out
        have h2 := Hll.out
        have h3 := Hwl.out
        simp at h1 ⊢
        show _ = _
        omega
      have Hq5 : Hid ((qs.set i Q).length = L) := by rw [List.length_set]; exact Hql
      have HZ5 : Hid (∀ k, k < i → (qs.set i Q).getD k 0 = 0) := fun k hk => by
        rw [getD_set' qs i Q k (by have := Hql.out; omega), if_neg (by omega)]
        exact HZ.out k (by omega)
      have HE5 : Hid (val (ps ++ (us ++ rs)) + val ds * val (qs.set i Q) = val xs * 2 ^ s) := by
        have h1 := val_set qs i Q (by have := Hql.out; omega)
        rw [HZ.out i (by omega)] at h1
        exact long_step Hpl.out Hwl.out hus hu HQ.out h1 (by rw [← Hpt.out]; exact HE.out)
      have HS5 : Hid (val ((ps ++ (us ++ rs)).drop i) < val ds) := by
        show _ < _
        rw [List.drop_append_of_le_length (by rw [Hpl.out]; exact Nat.le_refl _), List.drop_of_length_le (by rw [Hpl.out]; exact Nat.le_refl _), List.nil_append, val_append, Hk1.out, Nat.mul_zero, Nat.add_zero, hu]
        refine Nat.mod_lt _ ?_
        have := HS.out
        omega
      clear hW4 hH3 hu hus HE HS HZ
      go_wp2
      go_roundw
      case rel => exact ⟨i, ps ++ (us ++ rs), qs.set i Q, by omega, by go_num, Hl5, Hq5, HH4, HH5, HB5, HD5, HZ5, HE5, HS5⟩
      case measure => simp [intOf]
    · obtain rfl : j = 0 := by omega
      have hE := HE.out
      rw [HD1.out] at hE
      have hS := HS.out
      rw [List.drop_zero, HD1.out] at hS
      have hDp := HDp.out
      rw [HD1.out] at hDp
      obtain ⟨v1, v2⟩ := long_end HP.out hE hS hDp (by have := Hll.out; omega)
      have hll := HH2.out.lim
      rw [Hll.out] at hll
      have Hlt := Lib.hid (hll.take (m := l + 1) (by omega))
      have hql := HH3.out.lim
      rw [Hql.out] at hql
      have Hql2 := Lib.hid hql
      have hshr := shr_all _ (l + 1) (n + 1) (ls.take (l + 1)) w3 Hlt.out (by omega) (HT.out.below HB3.out) (s : Int) (by omega)
      rw [Int.toNat_natCast, v2] at hshr
      have Hshr := Lib.hid hshr
      have HV := Lib.hid v1
      clear hE hS hDp v1 v2 hll hql hshr HE HS HZ
      go_wp2_with fail
      refine Hshr.out.mono ?_
      rintro e w5 ⟨A5, m5, c5, us, rfl, hm5, hl5, hb5, hv5, hB5⟩
      have hql5 := Hql2.out.below hB5
      have Hfin : Hid (Lim w5 A5 m5 c5 us ∧ Bare us ∧ val us = val xs % val ys ∧ Below w.heap.size w w5) := ⟨hl5, hb5, hv5, HB3.out.trans (hB5.mono HB3.out.size)⟩
      clear hl5 hb5 hv5 hB5 Hshr
      go_wp2_with fail
      refine (qbare_any (tl qs) _ _ _ qs _ hql5 (by have := HL.out; omega) rfl).mono ?_
      rintro e w' ⟨rfl, rfl⟩
      go_wp2
      go_ret2
      exact ⟨_, _, _, _, _, _, _, _, rfl, Nat.le_trans hql5.tl_le (by have := HL.out; omega), by omega, hql5.trim, Hfin.out.1, bare_take qs, Hfin.out.2.1, by rw [val_take_tl]; exact HV.out, Hfin.out.2.2.1, Hfin.out.2.2.2⟩
end Go.Proofs.YtijhdlkfihjbiaaGreatDoor
/- The walks of quo.Div, Up and Gcd. -/
namespace Go.Proofs.YtijhdlkfihjbiaaGreatDoor
open Go.RowKit

/-- What Div hands back: the quotient and the rest, no error. -/
def TellsD (w : World) (Q R L M : Nat) (e : Ending) (w' : World) : Prop :=
  ∃ A m c zs A' m' c' ys, e = .returned (.tuple #[.slice A m c, .slice A' m' c', .int .i64 0]) ∧ m ≤ L ∧ m' ≤ M ∧ Lim w' A m c zs ∧ Lim w' A' m' c' ys ∧ Bare zs ∧ Bare ys ∧ val zs = Q ∧ val ys = R ∧ Below w.heap.size w w'

set_option maxHeartbeats 4000000 in
theorem div_any (A : Option Addr) (n c : Nat) (xs : List Nat) (B : Option Addr) (m d : Nat) (ys : List Nat) (w : World) (hA : Lim w A n c xs) (hB : Lim w B m d ys) (hn : n ≤ 1000000) (hm : m ≤ 1000000) (h0 : val ys ≠ 0) (hT : Tab w) :
    Calls Tryz.prog 77 #[.slice A n c, .slice B m d] w (TellsD w (val xs / val ys) (val xs % val ys) n n) := by
  have hP := hA.trim
  have hQ := hB.trim
  have HX := Lib.hid (val_take_tl xs)
  have HY := Lib.hid (val_take_tl ys)
  have l1 := hA.tl_le
  have l2 := hB.tl_le
  have hne : tl ys ≠ 0 := fun h => h0 (tl_zero_iff.1 h)
  have hfew : tl xs < tl ys → val xs < val ys := fun h => val_lt_of_tl_lt hA.words h
  obtain ⟨la, hla⟩ : ∃ l, tl xs = l := ⟨_, rfl⟩
  obtain ⟨lb, hlb⟩ : ∃ l, tl ys = l + 1 := ⟨tl ys - 1, by omega⟩
  have htop : (ys.take (lb + 1)).getD lb 0 ≠ 0 := by
    have := getD_tl_pred hlb
    rw [List.getD_eq_getElem?_getD, List.getElem?_take_of_lt (by omega), ← List.getD_eq_getElem?_getD]
    exact this
  rw [hla] at l1 hP HX hfew
  rw [hlb] at l2 hQ HY hfew
  have Hla := Lib.hid hla
  have Hlb := Lib.hid hlb
  have HA := Lib.hid hA
  have HB := Lib.hid hB
  have Hfew := Lib.hid hfew
  clear hla hlb hne hA hB hfew h0
  generalize xs.take la = ps at hP HX
  generalize ys.take (lb + 1) = qs at hQ HY htop
  have HP := Lib.hid hP
  have HQ := Lib.hid hQ
  have HT := Lib.hid hT
  have Htop := Lib.hid htop
  clear hP hQ hT htop
  have b0 : (((lb : Int) + 1) == 0) = false := beq_eq_false_iff_ne.2 (by omega)
  have b1 : (((lb + 1 : Nat) : Int) == 0) = false := beq_eq_false_iff_ne.2 (by omega)
  by_cases hlt : la < lb + 1
  · have hv := Hfew.out hlt
    have Hb := Lib.hid (bare_any A la c ps w HP.out (by omega))
    have HV : Hid (val xs / val ys = 0 ∧ val xs % val ys = val ps) := ⟨Nat.div_eq_of_lt hv, by rw [Nat.mod_eq_of_lt hv]; exact HX.out.symm⟩
    have b2 : decide ((la : Int) < (lb : Int) + 1) = true := by simp; omega
    have b3 : decide (la < lb + 1) = true := by simp; omega
    clear hv
    go_enter Tryz.func77, Tryz.ntmps77
    go_wp2_with fail
    refine (qbare_any la A n c xs _ HA.out (by omega) Hla).mono ?_
    rintro e w' ⟨rfl, rfl⟩
    go_wp2_with fail
    refine (qbare_any (lb + 1) B m d ys _ HB.out (by omega) Hlb).mono ?_
    rintro e w' ⟨rfl, rfl⟩
    go_wp2_with fail
    refine Hb.out.mono ?_
    rintro e w1 ⟨A1, m1, c1, zs, rfl, hm1, hl1, hb1, hv1, hB1⟩
    have Hfin : Hid (TellsD w (val xs / val ys) (val xs % val ys) n n (.returned (.tuple #[.slice none 0 0, .slice A1 m1 c1, .int .i64 0])) w1) :=
      ⟨none, 0, 0, [], A1, m1, c1, zs, rfl, Nat.zero_le _, by omega, Lim.nil _ _ _, hl1, rfl, hb1, by rw [HV.out.1]; rfl, by rw [HV.out.2]; exact hv1, hB1⟩
    clear hl1 hb1 hv1 hB1 Hb
    go_wp2
    go_ret3
    exact Hfin.out
  · have b2 : decide ((la : Int) < (lb : Int) + 1) = false := by simp; omega
    have b3 : decide (la < lb + 1) = false := by simp; omega
    by_cases h1 : lb = 0
    · subst h1
      obtain ⟨b, o, hBe, hb, hcl⟩ := HQ.out.at_ (by omega)
      subst hBe
      have c1 := hcl 0 (by omega)
      have hvw := HQ.out.words.getD 0
      have htop := Htop.out
      have hval : val qs = qs.getD 0 0 := by
        have := ltop_one qs 0 HQ.out.len
        rw [this, pw_zero, Nat.one_mul]; simp [val]
      rw [Nat.add_zero] at c1
      generalize qs.getD 0 0 = v at c1 hvw htop hval
      rw [HY.out] at hval
      have Hval := Lib.hid hval
      obtain ⟨R, hR⟩ : ∃ R, val ps % v = R := ⟨_, rfl⟩
      have hRb : R < 18446744073709551616 := by rw [← hR]; exact Nat.lt_trans (Nat.mod_lt _ (by omega)) hvw
      have Hs := Lib.hid (small_any A la c ps v w HP.out (by omega) (by omega) hvw R hR)
      have HR := Lib.hid hR
      clear hcl hval hR htop
      go_enter Tryz.func77, Tryz.ntmps77
      go_wp2_with fail
      refine (qbare_any la A n c xs _ HA.out (by omega) Hla).mono ?_
      rintro e w' ⟨rfl, rfl⟩
      go_wp2_with fail
      refine (qbare_any (0 + 1) _ m d ys _ HB.out (by omega) Hlb).mono ?_
      rintro e w' ⟨rfl, rfl⟩
      go_wp2_with fail
      refine Hs.out.mono ?_
      rintro e w1 ⟨A1, m1, c1, zs, rfl, hm1, hl1, hb1, hv1, hB1⟩
      have Ho := Lib.hid (of_any R hRb w1)
      have H1 : Hid (m1 ≤ la ∧ Lim w1 A1 m1 c1 zs ∧ Bare zs ∧ val zs = val ps / v ∧ Below w.heap.size w w1) := ⟨hm1, hl1, hb1, hv1, hB1⟩
      clear hl1 hb1 hv1 hB1 Hs hm1
      go_wp2_with fail
      refine Ho.out.mono ?_
      rintro e w2 ⟨A2, m2, c2, us, rfl, hm2, hl2, hb2, hv2, hB2⟩
      obtain ⟨f0, f1, f2, f3, f4⟩ := H1.out
      have Hfin : Hid (TellsD w (val xs / val ys) (val xs % val ys) n n (.returned (.tuple #[.slice A1 m1 c1, .slice A2 m2 c2, .int .i64 0])) w2) :=
        ⟨A1, m1, c1, zs, A2, m2, c2, us, rfl, by omega, by omega, f1.below hB2, hl2, f2, hb2, by rw [f3, HX.out, Hval.out], by rw [hv2, ← HR.out, HX.out, Hval.out], f4.trans (hB2.mono f4.size)⟩
      clear f0 f1 f2 f3 f4 hl2 hb2 hv2 hB2 Ho H1
      go_wp2
      go_ret3
      exact Hfin.out
    · have Hl := Lib.hid (long_any A la c ps B lb d qs w HP.out HQ.out Htop.out (by omega) (by omega) HT.out)
      have b4 : (((lb : Int) + 1) == 1) = false := beq_eq_false_iff_ne.2 (by omega)
      have b5 : (((lb + 1 : Nat) : Int) == 1) = false := beq_eq_false_iff_ne.2 (by omega)
      go_enter Tryz.func77, Tryz.ntmps77
      go_wp2_with fail
      refine (qbare_any la A n c xs _ HA.out (by omega) Hla).mono ?_
      rintro e w' ⟨rfl, rfl⟩
      go_wp2_with fail
      refine (qbare_any (lb + 1) B m d ys _ HB.out (by omega) Hlb).mono ?_
      rintro e w' ⟨rfl, rfl⟩
      go_wp2_with fail
      refine Hl.out.mono ?_
      rintro e w1 ⟨A1, m1, c1, zs, A2, m2, c2, us, rfl, hm1, hm2, hl1, hl2, hb1, hb2, hv1, hv2, hB1⟩
      have Hfin : Hid (TellsD w (val xs / val ys) (val xs % val ys) n n (.returned (.tuple #[.slice A1 m1 c1, .slice A2 m2 c2, .int .i64 0])) w1) :=
        ⟨A1, m1, c1, zs, A2, m2, c2, us, rfl, by omega, by omega, hl1, hl2, hb1, hb2, by rw [hv1, HX.out, HY.out], by rw [hv2, HX.out, HY.out], hB1⟩
      clear hl1 hl2 hb1 hb2 hv1 hv2 hB1 Hl
      go_wp2
      go_ret3
      exact Hfin.out

/-- The least number that times b is at least a. -/
def upq (a b : Nat) : Nat := a / b + (if a % b = 0 then 0 else 1)
theorem bare_zero {w : World} {A : Option Addr} {n c : Nat} {xs : List Nat} (h : Lim w A n c xs) (hb : Bare xs) : n = 0 ↔ val xs = 0 := by
  rw [← h.len, ← hb]; exact tl_zero_iff

set_option maxHeartbeats 2000000 in
theorem up_any (A : Option Addr) (n c : Nat) (xs : List Nat) (B : Option Addr) (m d : Nat) (ys : List Nat) (w : World) (hA : Lim w A n c xs) (hB : Lim w B m d ys) (hn : n ≤ 1000000) (hm : m ≤ 1000000) (h0 : val ys ≠ 0) (hT : Tab w) :
    Calls Tryz.prog 75 #[.slice A n c, .slice B m d] w (Tells2 w (upq (val xs) (val ys)) (n + 2) (.int .i64 0)) := by
  have Hd := Lib.hid (div_any A n c xs B m d ys w hA hB hn hm h0 hT)
  clear hA hB h0 hT
  go_enter Tryz.func75, Tryz.ntmps75
  go_wp2_with fail
  refine Hd.out.mono ?_
  rintro e w1 ⟨A1, m1, c1, zs, A2, m2, c2, us, rfl, hm1, hm2, hl1, hl2, hb1, hb2, hv1, hv2, hB1⟩
  have hz := bare_zero hl2 hb2
  rw [hv2] at hz
  have H1 : Hid (Lim w1 A1 m1 c1 zs ∧ Bare zs ∧ val zs = val xs / val ys ∧ Below w.heap.size w w1) := ⟨hl1, hb1, hv1, hB1⟩
  have Hz := Lib.hid hz
  clear hl1 hl2 hb1 hb2 hv1 hv2 hB1 hz Hd
  by_cases h2 : m2 = 0
  · obtain ⟨f1, f2, f3, f4⟩ := H1.out
    have Hfin : Hid (Tells2 w (upq (val xs) (val ys)) (n + 2) (.int .i64 0) (.returned (.tuple #[.slice A1 m1 c1, .int .i64 0])) w1) := ⟨A1, m1, c1, zs, rfl, by omega, f1, f2, by rw [upq, if_pos (Hz.out.1 h2), Nat.add_zero]; exact f3, f4⟩
    subst h2
    clear f1 f2 f3 f4 H1 Hz
    go_wp2
    go_ret2
    exact Hfin.out
  · have b1 : decide (0 < m2) = true := by simp; omega
    have b2 : decide ((0 : Int) < (m2 : Int)) = true := by simp; omega
    have h3 := fun h => h2 (Hz.out.2 h)
    have Hu : Hid (upq (val xs) (val ys) = val xs / val ys + 1) := by show _ = _; rw [upq, if_neg h3]
    have Ho := Lib.hid (of_any 1 (by decide) w1)
    clear h2 h3 Hz
    go_wp2_with fail
    refine Ho.out.mono ?_
    rintro e w2 ⟨A3, m3, c3, os, rfl, hm3, hl3, hb3, hv3, hB3⟩
    obtain ⟨f1, f2, f3, f4⟩ := H1.out
    have Ha := Lib.hid (add_any A1 m1 c1 zs A3 m3 c3 os w2 (f1.below hB3) hl3 (by omega) (by omega))
    rw [f3, hv3, ← Hu.out] at Ha
    have Hb := Lib.hid (f4.trans (hB3.mono f4.size))
    clear f1 f2 f3 f4 H1 hl3 hb3 hv3 hB3 Ho
    go_wp2_with fail
    refine Ha.out.mono ?_
    rintro e w3 ⟨A4, m4, c4, ts, rfl, hm4, hl4, hb4, hv4, hB4⟩
    have Hfin : Hid (Tells2 w (upq (val xs) (val ys)) (n + 2) (.int .i64 0) (.returned (.tuple #[.slice A4 m4 c4, .int .i64 0])) w3) := ⟨A4, m4, c4, ts, rfl, by omega, hl4, hb4, hv4, Hb.out.trans (hB4.mono Hb.out.size)⟩
    clear hl4 hb4 hv4 hB4 Ha Hb
    go_wp2
    go_ret2
    exact Hfin.out


end Go.Proofs.YtijhdlkfihjbiaaGreatDoor
/- The walk of planimeterref05.To of a number of at most 197 digits that isn't 0. -/
namespace Go.Proofs.YtijhdlkfihjbiaaGreatDoor
open Go.RowKit

theorem RelTf.of {w : World} {g : Bool} {V : Nat} {E : Int} {A : Option Addr} {m c : Nat} {ds : List Nat} {u : World} (dg : Bool) (dE : Int) (h : HoldT w g A m c ds E u) {p : Nat} (hp : w.heap.size + 1 < p) {g0 : Bool} {A0 : Option Addr} {n0 c0 : Nat} {e0 : Int} (hB : Bd u p 28 g0 A0 n0 c0 e0) {A5 : Option Addr} {m5 c5 : Nat} {es : List Nat} (hl : Dig u A5 m5 c5 es) (hd : D.Bare es) (hv : D.val es = V) (hm : m5 ≤ 200) : RelT w dg V dE p A5 m5 c5 es (World.put u p dg A5 m5 c5 dE) :=
  ⟨hB.put _ _ _ _ _, h.2.1.other (by omega) _ _ _ _ _, hB.dig hl _ _ _ _ _, hd, hv, hm, hp, below_put h.2.2.2 (by omega) _ _ _ _ _⟩


end Go.Proofs.YtijhdlkfihjbiaaGreatDoor
/- Rounding, as plain mathematics: the size that bits are worth, which bits lie below a size, what a number is rounded to; by the program's way (rndO) and by sizes (rndS). -/
namespace Go.Proofs.YtijhdlkfihjbiaaGreatDoor

/-- Where the least unit lies: a number that nothing reckons with. -/
noncomputable def kb : Nat := Classical.choose (⟨2147482574, rfl⟩ : ∃ k : Nat, k = 2147482574)
/-- The size of bits without a sign; infinity's is 2^1024. -/
noncomputable def vX (X : Nat) : Nat := fm X * 2 ^ (fE X + kb)

theorem vX_parts {L U X : Nat} (hX : X = L * 4503599627370496 + U) (hU : U ≤ 9007199254740992) (h2 : 0 < L → 4503599627370496 ≤ U) (hL : L ≤ 2045) : vX X = U * 2 ^ (L + kb) := by
  unfold vX
  rcases Nat.lt_or_ge U 4503599627370496 with h | h
  · have hL0 : L = 0 := by omega
    subst hL0
    have e1 : fex X = 0 := by unfold fex; omega
    have e2 : ffr X = U := by unfold ffr; omega
    rw [fm, if_pos e1, e2, fE, e1]
  · rcases Nat.lt_or_ge U 9007199254740992 with h' | h'
    · have e1 : fex X = L + 1 := by unfold fex; omega
      have e2 : ffr X = U - 4503599627370496 := by unfold ffr; omega
      rw [fm, if_neg (by omega), e2, fE, e1, Nat.add_sub_cancel, Nat.sub_add_cancel h]
    · have e0 : U = 9007199254740992 := by omega
      subst e0
      have e1 : fex X = L + 2 := by unfold fex; omega
      have e2 : ffr X = 0 := by unfold ffr; omega
      rw [fm, if_neg (by omega), e2, fE, e1, show L + 2 - 1 + kb = (L + kb) + 1 by omega, Nat.pow_succ]
      generalize 2 ^ (L + kb) = D
      omega
/-- The bits' own parts. -/
theorem x_parts {X : Nat} (h : X < 9218868437227405312) : X = fE X * 4503599627370496 + fm X ∧ fm X < 9007199254740992 ∧ (0 < fE X → 4503599627370496 ≤ fm X) ∧ fE X ≤ 2045 := by
  obtain ⟨p1, p2, p3, p4⟩ := f_parts X
  have hf : Fnt X := by unfold Fnt fex; omega
  exact ⟨by omega, p2, p3, p4 hf⟩
theorem vX_next {X : Nat} (h : X < 9218868437227405312) : vX (X + 1) = vX X + 2 ^ (fE X + kb) := by
  obtain ⟨p1, p2, p3, p4⟩ := x_parts h
  have h1 := vX_parts (L := fE X) (U := fm X + 1) (X := X + 1) (by omega) (by omega) (by omega) p4
  rw [h1, Nat.add_mul, Nat.one_mul]; rfl
theorem vX_lt {X : Nat} (h : X < 9218868437227405312) : vX X < vX (X + 1) := by
  rw [vX_next h]; exact Nat.lt_add_of_pos_right (Nat.two_pow_pos _)
theorem vX_mono {X d : Nat} (h : X + d ≤ 9218868437227405312) : vX X ≤ vX (X + d) := by
  induction d with
  | zero => exact Nat.le_refl _
  | succ d ih =>
    have h1 := ih (by omega)
    have h2 := vX_lt (X := X + d) (by omega)
    rw [← Nat.add_assoc]
    omega
theorem vX_le {X Y : Nat} (h : X ≤ Y) (hY : Y ≤ 9218868437227405312) : vX X ≤ vX Y := by
  have := vX_mono (X := X) (d := Y - X) (by omega)
  rwa [Nat.add_sub_cancel' h] at this

/-- The greatest bits that are worth at most S. -/
def IsLow (S X : Nat) : Prop := X ≤ 9218868437227405312 ∧ vX X ≤ S ∧ (X < 9218868437227405312 → S < vX (X + 1))
theorem IsLow.not_lt {S X Y : Nat} (hX : IsLow S X) (hY : IsLow S Y) : ¬ X < Y := by
  intro h
  have h1 := hX.2.2 (by have := hY.1; omega)
  have h2 := vX_le (X := X + 1) (Y := Y) h hY.1
  have h3 := hY.2.1
  omega
theorem IsLow.mono {S T X Y : Nat} (hX : IsLow S X) (hY : IsLow T Y) (h : S ≤ T) : X ≤ Y := by
  rcases Nat.lt_or_ge Y X with h' | h'
  · have h1 := hY.2.2 (by have := hX.1; omega)
    have h2 := vX_le (X := Y + 1) (Y := X) h' hX.1
    have h3 := hX.2.1
    omega
  · exact h'

def fl (half below small : Bool) : Nat := if half || below then (if small then 3 else 1) else 0
def rtop (V : Nat) (e : Int) : Int := (blen V : Int) - 1 + e
/-- By sizes. -/
noncomputable def hS (S X : Nat) : Bool := decide (vX X + vX (X + 1) ≤ 2 * S)
end Go.Proofs.YtijhdlkfihjbiaaGreatDoor
/- The walks of round.known, away, signed, raised, Over, Under, up, cut, count. -/
namespace Go.Proofs.YtijhdlkfihjbiaaGreatDoor
open Go.RowKit



end Go.Proofs.YtijhdlkfihjbiaaGreatDoor
/- The walks of round.cut, count, laid. -/
namespace Go.Proofs.YtijhdlkfihjbiaaGreatDoor
open Go.RowKit

theorem quiet_one {P : Program} {f : FuncId} {args : Array Value} {w : World} {n : Nat} {v : Value}
    (h : Calls P f args (w.drewN n) fun e w' => e = .returned v ∧ w.drewN n = w') : Calls P f args (w.drewN n) fun e w'' => e = .returned v ∧ ∃ m, w'' = w.drewN m :=
  h.mono fun _ _ ⟨he, hm⟩ => ⟨he, n, hm.symm⟩
end Go.Proofs.YtijhdlkfihjbiaaGreatDoor
/- The document's numbers: planimeterref05.Sign, Top, Add. -/
namespace Go.Proofs.YtijhdlkfihjbiaaGreatDoor
open Go.RowKit

theorem dnil_iff {w : World} {A : Option Addr} {n c : Nat} {ds : List Nat} (h : Dig w A n c ds) (hb : D.Bare ds) : n = 0 ↔ D.val ds = 0 := by
  rw [← D.tl_zero_iff, hb, h.len]

theorem rsign_l (v : Int) (g : Bool) (A : Option Addr) (n c : Nat) (ds : List Nat) (e0 : Int) (w : World) (hA : Dig w A n c ds) (hb : D.Bare ds) (hv : Hid (sgD g (D.val ds) = v)) :
    Calls Tryz.prog 20 #[.agg #[.bool g, .slice A n c, .int .i64 e0]] w fun e w' => e = .returned (.int .i64 v) ∧ Below w.heap.size w w' := by
  have H1 := Lib.hid (below1 w (.cells #[.bool g, .slice A n c, .int .i64 e0] 28))
  have hv' := hv.out
  have hz := dnil_iff hA hb
  unfold sgD at hv'
  clear hv hA hb
  by_cases h0 : D.val ds = 0
  · rw [if_pos h0] at hv'
    subst hv'
    obtain rfl := hz.2 h0
    clear hz h0
    go_enter Tryz.func20, Tryz.ntmps20
    go_wp2
    go_ret
    exact ⟨rfl, H1.out⟩
  · rw [if_neg h0] at hv'
    have c1 : ((n : Int) == 0) = false := beq_no (by omega)
    clear hz h0
    cases g <;> subst hv' <;> (
      go_enter Tryz.func20, Tryz.ntmps20
      go_wp2
      go_ret
      exact ⟨rfl, H1.out⟩)

theorem rtop_l (v : Int) (g : Bool) (A : Option Addr) (n c : Nat) (ds : List Nat) (e0 : Int) (w : World) (hA : Dig w A n c ds) (hb : D.Bare ds) (hn : n ≤ 1000000) (h1 : -4294967296 ≤ e0) (h2 : e0 ≤ 4294967296) (hv : Hid (rtop (D.val ds) e0 = v)) :
    Calls Tryz.prog 9 #[.agg #[.bool g, .slice A n c, .int .i64 e0]] w fun e w' => e = .returned (.int .i64 v) ∧ Below w.heap.size w w' := by
  have a1 := below1 w (.cells #[.bool g, .slice A n c, .int .i64 e0] 28)
  have hlt := D.val_lt hA.words
  rw [hA.len, D.pw_two] at hlt
  have hbl : blen (D.val ds) ≤ 16 * n := blen_le_iff.2 hlt
  have H2 := fun q => rbits_any A n c ds ((w.alloc (.cells #[.bool g, .slice A n c, .int .i64 e0] 28)).drewN q) ((hA.below a1).drewN q) hb hn
  have hv' : (blen (D.val ds) : Int) - 1 + e0 = v := hv.out
  generalize blen (D.val ds) = B at *
  have H2 := Lib.hid H2
  have HS := Lib.hid a1
  have HV := Lib.hid hv'
  have hw : IntKind.i64.wrap ((B : Int) - 1 + e0) = (B : Int) - 1 + e0 := by rw [IntKind.wrap_i64]; omega
  clear hA hb a1 hlt hv hv'
  go_enter Tryz.func9, Tryz.ntmps9
  go_wp2
  go_quiet ((go_at_call 26; exact quiet_one (H2.out _)))
  go_wp2
  go_ret
  exact ⟨ret_int HV.out, below_drewN HS.out _⟩

/-- Two numbers of the document, in their boxes. -/
def HN (w0 : World) (b1 : Nat) (g : Bool) (A : Option Addr) (n c : Nat) (ds : List Nat) (e1 : Int) (b2 : Nat) (k : Bool) (B : Option Addr) (m d : Nat) (es : List Nat) (e2 : Int) (w : World) : Prop :=
  Bd w b1 28 g A n c e1 ∧ Bd w b2 28 k B m d e2 ∧ Dig w A n c ds ∧ Dig w B m d es ∧ Below w0.heap.size w0 w
abbrev CellsN (w0 : World) (b1 : Nat) (g : Bool) (A : Option Addr) (n c : Nat) (ds : List Nat) (e1 : Int) (b2 : Nat) (k : Bool) (B : Option Addr) (m d : Nat) (es : List Nat) (e2 : Int) (w' : World) : Prop :=
  w'.cell? ⟨b1, 0, none⟩ = some (.bool g) ∧ w'.cell? ⟨b1, 1, none⟩ = some (.slice A n c) ∧ w'.cell? ⟨b1, 2, none⟩ = some (.int .i64 e1) ∧ w'.cell? ⟨b2, 0, none⟩ = some (.bool k) ∧ w'.cell? ⟨b2, 1, none⟩ = some (.slice B m d) ∧ w'.cell? ⟨b2, 2, none⟩ = some (.int .i64 e2) ∧ Hid (HN w0 b1 g A n c ds e1 b2 k B m d es e2 w')
section
variable {w0 : World} {b1 : Nat} {g : Bool} {A : Option Addr} {n c : Nat} {ds : List Nat} {e1 : Int} {b2 : Nat} {k : Bool} {B : Option Addr} {m d : Nat} {es : List Nat} {e2 : Int} {w w' : World}
theorem HN.below (h : HN w0 b1 g A n c ds e1 b2 k B m d es e2 w) (hb : Below w.heap.size w w') : HN w0 b1 g A n c ds e1 b2 k B m d es e2 w' := by
  obtain ⟨h1, h2, h3, h4, h5⟩ := h
  exact ⟨h1.below hb, h2.below hb, h3.below hb, h4.below hb, h5.trans (hb.mono h5.size)⟩
theorem HN.cells (h : HN w0 b1 g A n c ds e1 b2 k B m d es e2 w) : CellsN w0 b1 g A n c ds e1 b2 k B m d es e2 w := ⟨h.1.c0, h.1.c1, h.1.c2, h.2.1.c0, h.2.1.c1, h.2.1.c2, h⟩
end
theorem HN.start (w : World) (g : Bool) (A : Option Addr) (n c : Nat) (ds : List Nat) (e1 : Int) (k : Bool) (B : Option Addr) (m d : Nat) (es : List Nat) (e2 : Int) (hA : Dig w A n c ds) (hB : Dig w B m d es) :
    HN w w.heap.size g A n c ds e1 (w.heap.size + 1) k B m d es e2 ((w.alloc (.cells #[.bool g, .slice A n c, .int .i64 e1] 28)).alloc (.cells #[.bool k, .slice B m d, .int .i64 e2] 28)) := by
  have a3 : Below w.heap.size w ((w.alloc (.cells #[.bool g, .slice A n c, .int .i64 e1] 28)).alloc (.cells #[.bool k, .slice B m d, .int .i64 e2] 28)) := ((Below.refl _ _).alloc (Nat.le_refl _) _).alloc (by simp) _
  have b1 := (Bd.new w 28 g A n c e1).alloc (.cells #[.bool k, .slice B m d, .int .i64 e2] 28)
  have b2 := Bd.new (w.alloc (.cells #[.bool g, .slice A n c, .int .i64 e1] 28)) 28 k B m d e2
  rw [World.size_alloc] at b2
  exact ⟨b1, b2, hA.below a3, hB.below a3, a3⟩
theorem HN.start3 (w : World) (g : Bool) (A : Option Addr) (n c : Nat) (ds : List Nat) (e1 : Int) (k : Bool) (B : Option Addr) (m d : Nat) (es : List Nat) (e2 : Int) (hA : Dig w A n c ds) (hB : Dig w B m d es) :
    HN w w.heap.size g A n c ds e1 (w.heap.size + 1) k B m d es e2 (((w.alloc (.cells #[.bool g, .slice A n c, .int .i64 e1] 28)).alloc (.cells #[.bool k, .slice B m d, .int .i64 e2] 28)).alloc (.cells #[.bool false, .slice none 0 0, .int .i64 0] 28)) ∧
    Bd (((w.alloc (.cells #[.bool g, .slice A n c, .int .i64 e1] 28)).alloc (.cells #[.bool k, .slice B m d, .int .i64 e2] 28)).alloc (.cells #[.bool false, .slice none 0 0, .int .i64 0] 28)) (w.heap.size + 1 + 1) 28 false none 0 0 0 := by
  have b3 := Bd.new ((w.alloc (.cells #[.bool g, .slice A n c, .int .i64 e1] 28)).alloc (.cells #[.bool k, .slice B m d, .int .i64 e2] 28)) 28 false none 0 0 0
  rw [World.size_alloc, World.size_alloc] at b3
  exact ⟨(HN.start w g A n c ds e1 k B m d es e2 hA hB).below (below1 _ _), b3⟩

/-- The first number is 0: the second one. -/
theorem radd_zero (g : Bool) (A : Option Addr) (c : Nat) (e1 : Int) (k : Bool) (B : Option Addr) (m d : Nat) (es : List Nat) (e2 : Int) (w : World) (hB : Dig w B m d es) (bb : D.Bare es) :
    Calls Tryz.prog 21 #[.agg #[.bool g, .slice A 0 c, .int .i64 e1], .agg #[.bool k, .slice B m d, .int .i64 e2]] w (NTold w ⟨k, D.val es, e2⟩ m) := by
  have h0 := (HN.start w g A 0 c [] e1 k B m d es e2 (Dig.nil _ _ _) hB).below (below1 _ (.cells #[.bool k, .slice B m d, .int .i64 e2] 28))
  have Hfin : Hid (NTold w ⟨k, D.val es, e2⟩ m (.returned (.agg #[.bool k, .slice B m d, .int .i64 e2])) (((w.alloc (.cells #[.bool g, .slice A 0 c, .int .i64 e1] 28)).alloc (.cells #[.bool k, .slice B m d, .int .i64 e2] 28)).alloc (.cells #[.bool k, .slice B m d, .int .i64 e2] 28))) :=
    ⟨B, m, d, es, rfl, Nat.le_refl _, h0.2.2.2.1, bb, rfl, h0.2.2.2.2⟩
  clear h0 hB bb
  go_enter Tryz.func21, Tryz.ntmps21
  go_wp2
  exact bodyPost_ret (v := .agg #[.bool k, .slice B m d, .int .i64 e2]) (by simp [results, Tryz.results21, go_sem]) rfl Hfin.out
end Go.Proofs.YtijhdlkfihjbiaaGreatDoor
