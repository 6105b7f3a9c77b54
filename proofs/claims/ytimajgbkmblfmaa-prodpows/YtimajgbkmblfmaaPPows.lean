/- The walk of the law ProdPows. (Written by law_pows.py.) -/
import Derived.Test.YtimajgbkmblfmaaPAlive
import Derived.Test.YtimajgbkmblfmaaPRMul
import Derived.Test.YtimajgbkmblfmaaWRBit
namespace Go.Proofs.Ytimajgbkmblfmaa
open Go.RowKit

theorem rbits_to (b : Nat) (A : Option Addr) (n c : Nat) (ds : List Nat) (w : World) (h : Dig w A n c ds) (hb : D.Bare ds) (hn : n ≤ 1000000) (hv : Hid (blen (D.val ds) = b)) :
    Calls Try.prog 16 #[.slice A n c] w fun e w' => e = .returned (.int .i64 (b : Int)) ∧ w = w' := by
  rw [← hv.out]; exact rbits_any A n c ds w h hb hn
theorem lt_dpw {V M : Nat} (h : blen V ≤ 16 * M) : V < D.pw M := by
  rw [D.pw_two]; exact blen_le_iff.1 h
/-- Same, with the world behind it a letter. -/
theorem same_b (A : Option Addr) (n c : Nat) (xs : List Nat) (B : Option Addr) (d : Nat) (w : World) (hA : Lim w A n c xs) (hB : Lim w B n d xs) (hn : n ≤ 4398046511104) :
    Calls Try.prog 18 #[.slice A n c, .slice B n d] w fun e w' => e = .returned (.bool true) ∧ Below w.heap.size w w' :=
  (same_yes A n c xs B d w hA hB hn).mono fun _ _ ⟨he, q, hq⟩ => ⟨he, by rw [hq]; exact below_drewN (Below.refl _ _) q⟩

set_option maxHeartbeats 4000000 in
theorem pows_far (A : Option Addr) (n c : Nat) (k : Int) (w : World) (hn : n ≤ 9223372036854775807) (hfar : 12 < n) :
    Calls Try.prog 4 #[.slice A n c, .int .i64 k] w fun e w' => e = .returned (.bool true) ∧ Below w.heap.size w w' := by
  have Hal := Lib.hid (alive_any w)
  have b1 : decide ((12 : Int) < (n : Int)) = true := by simp; omega
  go_enter Try.func4, Try.ntmps4
  go_wp2_with fail
  refine Hal.out.mono ?_
  rintro e w1 ⟨rfl, hb⟩
  go_wp2
  go_ret
  exact ⟨rfl, hb⟩

set_option maxHeartbeats 4000000 in
set_option maxRecDepth 100000 in
theorem pows_neg (A : Option Addr) (n c : Nat) (xs : List Nat) (k : Int) (w : World) (hA : Lim w A n c xs) (hn : n ≤ 12) (hk : k < 0) :
    Calls Try.prog 4 #[.slice A n c, .int .i64 k] w fun e w' => e = .returned (.bool true) ∧ Below w.heap.size w w' := by
  have Hal := Lib.hid (alive_any w)
  have hS : Below w.heap.size w w := Below.refl _ _
  have hB := hA.blen_le
  obtain ⟨X, hX⟩ : ∃ X, val xs = X := ⟨_, rfl⟩
  rw [hX] at hB
  have HX := Lib.hid hX
  obtain ⟨b, hb0⟩ : ∃ b, blen X = b := ⟨_, rfl⟩
  have Hb := Lib.hid hb0
  rw [hb0] at hB
  have b1 : decide ((12 : Int) < (n : Int)) = false := by simp; omega
  have b2 : decide (k < 0) = true := by simp; omega
  clear hX hb0
  go_enter Try.func4, Try.ntmps4
  go_wp2_with fail
  refine (Hal.out).mono ?_
  rintro e w1 ⟨rfl, hb⟩
  replace hS := hS.trans (hb.mono hS.size)
  replace hA := hA.below hb
  clear hb
  go_wp2_with fail
  refine (to_any _ _ _ _ _ hA (by omega)).mono ?_
  rintro e w2 ⟨A_ds, m_ds, c_ds, ds, rfl, hm_ds, h_ds, hbare, hv, hb⟩
  have H_ds : Hid (D.val ds = X) := by rw [hv, HX.out]; rfl
  have B_ds := Lib.hid hbare
  replace hS := hS.trans (hb.mono hS.size)
  replace hA := hA.below hb
  clear hb hv hbare
  go_wp2_with fail
  refine (rbits_to b _ _ _ _ _ h_ds B_ds.out (by omega) (by rw [H_ds.out]; exact Hb)).mono ?_
  rintro e w' ⟨rfl, rfl⟩
  go_wp2_with fail
  refine (pow_neg _ _ _ k _ (by omega)).mono ?_
  rintro e w' ⟨rfl, rfl⟩
  go_wp2
  go_ret
  exact ⟨rfl, hS⟩

set_option maxHeartbeats 4000000 in
set_option maxRecDepth 100000 in
theorem pows_zero (A : Option Addr) (n c : Nat) (xs : List Nat)  (w : World) (hA : Lim w A n c xs) (hn : n ≤ 12)  :
    Calls Try.prog 4 #[.slice A n c, .int .i64 0] w fun e w' => e = .returned (.bool true) ∧ Below w.heap.size w w' := by
  have Hal := Lib.hid (alive_any w)
  have hS : Below w.heap.size w w := Below.refl _ _
  have hB := hA.blen_le
  obtain ⟨X, hX⟩ : ∃ X, val xs = X := ⟨_, rfl⟩
  rw [hX] at hB
  have HX := Lib.hid hX
  obtain ⟨b, hb0⟩ : ∃ b, blen X = b := ⟨_, rfl⟩
  have Hb := Lib.hid hb0
  rw [hb0] at hB
  have b1 : decide ((12 : Int) < (n : Int)) = false := by simp; omega
  have hpow : ∀ w', Lim w' A n c xs → Calls Try.prog 17 #[.slice A n c, .int .i64 0] w' (Tells2 w' (val xs ^ 0) 1024 (.int .i64 0)) := fun w' h => pow_ok A n c xs 0 w' h (by omega) (by decide) (by rw [Nat.pow_zero]; decide)
  have Hpow := Lib.hid hpow
  clear hpow
  clear hX hb0
  go_enter Try.func4, Try.ntmps4
  go_wp2_with fail
  refine (Hal.out).mono ?_
  rintro e w1 ⟨rfl, hb⟩
  replace hS := hS.trans (hb.mono hS.size)
  replace hA := hA.below hb
  clear hb
  go_wp2_with fail
  refine (to_any _ _ _ _ _ hA (by omega)).mono ?_
  rintro e w2 ⟨A_ds, m_ds, c_ds, ds, rfl, hm_ds, h_ds, hbare, hv, hb⟩
  have H_ds : Hid (D.val ds = X) := by rw [hv, HX.out]; rfl
  have B_ds := Lib.hid hbare
  replace hS := hS.trans (hb.mono hS.size)
  replace hA := hA.below hb
  clear hb hv hbare
  go_wp2_with fail
  refine (rbits_to b _ _ _ _ _ h_ds B_ds.out (by omega) (by rw [H_ds.out]; exact Hb)).mono ?_
  rintro e w' ⟨rfl, rfl⟩
  go_wp2_with fail
  refine (Hpow.out _ hA).mono ?_
  rintro e w3 ⟨A_zs, m_zs, c_zs, zs, rfl, hm_zs, h_zs, hbare, hv, hb⟩
  have H_zs : Hid (val zs = 1) := by rw [hv, show val xs ^ 0 = 1 from Nat.pow_zero _]; rfl
  have B_zs := Lib.hid hbare
  replace hS := hS.trans (hb.mono hS.size)
  replace hA := hA.below hb
  replace h_ds := h_ds.below hb
  clear hb hv hbare
  obtain rfl : zs = [1] := bare_eq h_zs.words (Words.one (by decide)) B_zs.out (bare_one (by decide)) (H_zs.out.trans (by decide))
  obtain rfl : m_zs = 1 := h_zs.len.symm
  go_wp2_with fail
  refine (same_b A_zs 1 c_zs [1] _ 1 _ (h_zs.alloc (.cells #[.int .u64 1] 23)) (lim_new1 w3 23 1 1 rfl (by decide)) (by decide)).mono ?_
  rintro e w4 ⟨rfl, hb⟩
  replace hS : Below w.heap.size w w4 := (hS.alloc hS.size _).trans (hb.mono (Nat.le_trans hS.size (by simp)))
  clear hb
  go_wp2
  go_ret
  exact ⟨rfl, hS⟩

set_option maxHeartbeats 4000000 in
set_option maxRecDepth 100000 in
theorem pows_small (A : Option Addr) (n c : Nat) (xs : List Nat) (k : Nat) (w : World) (hA : Lim w A n c xs) (hn : n ≤ 12) (hk1 : 1 ≤ k) (hk : k ≤ 9223372036854775807) (hs : blen (val xs) < 2) :
    Calls Try.prog 4 #[.slice A n c, .int .i64 (k : Int)] w fun e w' => e = .returned (.bool true) ∧ Below w.heap.size w w' := by
  have Hal := Lib.hid (alive_any w)
  have hS : Below w.heap.size w w := Below.refl _ _
  have hB := hA.blen_le
  obtain ⟨X, hX⟩ : ∃ X, val xs = X := ⟨_, rfl⟩
  rw [hX] at hB
  have HX := Lib.hid hX
  obtain ⟨b, hb0⟩ : ∃ b, blen X = b := ⟨_, rfl⟩
  have Hb := Lib.hid hb0
  rw [hb0] at hB
  have b1 : decide ((12 : Int) < (n : Int)) = false := by simp; omega
  have b2 : decide ((k : Int) < 0) = false := by simp
  have b3 : ((k : Int) == 0) = false := beq_eq_false_iff_ne.2 (by omega)
  rw [hX, hb0] at hs
  have b4 : decide ((b : Int) < 2) = true := by simp; omega
  have HXk : Hid (X ^ k = X) := by
    have h1 : X < 2 ^ 1 := blen_le_iff.1 (by omega)
    have h3 : X = 0 ∨ X = 1 := by omega
    rcases h3 with h3 | h3
    · rw [h3]; exact Nat.zero_pow (by omega)
    · rw [h3]; exact Nat.one_pow k
  clear hX hb0
  go_enter Try.func4, Try.ntmps4
  go_wp2_with fail
  refine (Hal.out).mono ?_
  rintro e w1 ⟨rfl, hb⟩
  replace hS := hS.trans (hb.mono hS.size)
  replace hA := hA.below hb
  clear hb
  go_wp2_with fail
  refine (to_any _ _ _ _ _ hA (by omega)).mono ?_
  rintro e w2 ⟨A_ds, m_ds, c_ds, ds, rfl, hm_ds, h_ds, hbare, hv, hb⟩
  have H_ds : Hid (D.val ds = X) := by rw [hv, HX.out]; rfl
  have B_ds := Lib.hid hbare
  replace hS := hS.trans (hb.mono hS.size)
  replace hA := hA.below hb
  clear hb hv hbare
  go_wp2_with fail
  refine (rbits_to b _ _ _ _ _ h_ds B_ds.out (by omega) (by rw [H_ds.out]; exact Hb)).mono ?_
  rintro e w' ⟨rfl, rfl⟩
  go_wp2_with fail
  refine (pow_ok _ _ _ _ k _ hA (by omega) hk (by rw [HX.out, HXk.out, Hb.out]; omega)).mono ?_
  rintro e w3 ⟨A_zs, m_zs, c_zs, zs, rfl, hm_zs, h_zs, hbare, hv, hb⟩
  have H_zs : Hid (val zs = X) := by rw [hv, HX.out, HXk.out]; rfl
  have B_zs := Lib.hid hbare
  replace hS := hS.trans (hb.mono hS.size)
  replace hA := hA.below hb
  replace h_ds := h_ds.below hb
  clear hb hv hbare
  go_wp2_with fail
  refine (same_any _ _ _ _ _ _ _ _ _ h_zs B_zs.out h_ds B_ds.out (by rw [H_zs.out, H_ds.out]) (by omega)).mono ?_
  rintro e w4 ⟨rfl, hb⟩
  replace hS := hS.trans (hb.mono hS.size)
  replace hA := hA.below hb
  replace h_ds := h_ds.below hb
  replace h_zs := h_zs.below hb
  clear hb
  go_wp2
  go_ret
  exact ⟨rfl, hS⟩

set_option maxHeartbeats 4000000 in
set_option maxRecDepth 100000 in
theorem pows_long (A : Option Addr) (n c : Nat) (xs : List Nat) (k : Nat) (w : World) (hA : Lim w A n c xs) (hn : n ≤ 12) (hk1 : 1 ≤ k) (hk : k ≤ 9223372036854775807) (hs : 2 ≤ blen (val xs)) (hl : 65535 < k * (blen (val xs) - 1)) :
    Calls Try.prog 4 #[.slice A n c, .int .i64 (k : Int)] w fun e w' => e = .returned (.bool true) ∧ Below w.heap.size w w' := by
  have Hal := Lib.hid (alive_any w)
  have hS : Below w.heap.size w w := Below.refl _ _
  have hB := hA.blen_le
  obtain ⟨X, hX⟩ : ∃ X, val xs = X := ⟨_, rfl⟩
  rw [hX] at hB
  have HX := Lib.hid hX
  obtain ⟨b, hb0⟩ : ∃ b, blen X = b := ⟨_, rfl⟩
  have Hb := Lib.hid hb0
  rw [hb0] at hB
  have b1 : decide ((12 : Int) < (n : Int)) = false := by simp; omega
  have b2 : decide ((k : Int) < 0) = false := by simp
  have b3 : ((k : Int) == 0) = false := beq_eq_false_iff_ne.2 (by omega)
  rw [hX, hb0] at hs
  have b4 : decide ((b : Int) < 2) = false := by simp; omega
  obtain ⟨q, hq⟩ : ∃ q, b = q + 1 := ⟨b - 1, by omega⟩
  have hX0 : X ≠ 0 := fun h => by have := blen_zero_iff.2 h; omega
  have eq1 : (b : Int) - 1 = (q : Int) := by omega
  have hq1 : q + 1 ≤ b := by omega
  have hq2 : b ≤ q + 1 := by omega
  obtain ⟨t, ht⟩ : ∃ t, 65535 / q = t := ⟨_, rfl⟩
  have et : (65535 : Int) / (q : Int) = (t : Int) := by rw [← ht]; exact (Int.natCast_ediv 65535 q).symm
  have ht2 : t ≤ 65535 := by rw [← ht]; exact Nat.div_le_self _ _
  have hge := blen_pow_ge k hX0
  rw [hb0, hq, Nat.add_sub_cancel] at hge
  have hle := blen_pow_le X k hk1
  rw [hb0] at hle
  have htk : k ≤ t ↔ k * q ≤ 65535 := by rw [← ht]; exact Nat.le_div_iff_mul_le (by omega)
  rw [hX, hb0, hq, Nat.add_sub_cancel] at hl
  have hkt : t < k := by
    rcases Nat.lt_or_ge t k with h | h
    · exact h
    · have := htk.1 h; omega
  have b5 : decide ((t : Int) < (k : Int)) = true := by simp; omega
  have Hlong : Hid (65536 < blen (X ^ k)) := by show _ < _; omega
  clear hge hle htk ht hX0 hl hq
  clear hX hb0
  go_enter Try.func4, Try.ntmps4
  go_wp2_with fail
  refine (Hal.out).mono ?_
  rintro e w1 ⟨rfl, hb⟩
  replace hS := hS.trans (hb.mono hS.size)
  replace hA := hA.below hb
  clear hb
  go_wp2_with fail
  refine (to_any _ _ _ _ _ hA (by omega)).mono ?_
  rintro e w2 ⟨A_ds, m_ds, c_ds, ds, rfl, hm_ds, h_ds, hbare, hv, hb⟩
  have H_ds : Hid (D.val ds = X) := by rw [hv, HX.out]; rfl
  have B_ds := Lib.hid hbare
  replace hS := hS.trans (hb.mono hS.size)
  replace hA := hA.below hb
  clear hb hv hbare
  go_wp2_with fail
  refine (rbits_to b _ _ _ _ _ h_ds B_ds.out (by omega) (by rw [H_ds.out]; exact Hb)).mono ?_
  rintro e w' ⟨rfl, rfl⟩
  go_wp2_with fail
  refine (pow_long _ _ _ _ k _ hA (by omega) hk (by rw [HX.out]; exact Hlong.out)).mono ?_
  rintro e w3 ⟨rfl, hb⟩
  replace hS := hS.trans (hb.mono hS.size)
  replace hA := hA.below hb
  replace h_ds := h_ds.below hb
  clear hb
  go_wp2
  go_ret
  exact ⟨rfl, hS⟩

set_option maxHeartbeats 4000000 in
set_option maxRecDepth 100000 in
theorem pows_over (A : Option Addr) (n c : Nat) (xs : List Nat) (k : Nat) (w : World) (hA : Lim w A n c xs) (hn : n ≤ 12) (hk1 : 1 ≤ k) (hk : k ≤ 9223372036854775807) (hs : 2 ≤ blen (val xs)) (hl : k * (blen (val xs) - 1) ≤ 65535) (hm : 3000 < k * blen (val xs)) (hov : 65536 < blen (val xs ^ k)) :
    Calls Try.prog 4 #[.slice A n c, .int .i64 (k : Int)] w fun e w' => e = .returned (.bool true) ∧ Below w.heap.size w w' := by
  have Hal := Lib.hid (alive_any w)
  have hS : Below w.heap.size w w := Below.refl _ _
  have hB := hA.blen_le
  obtain ⟨X, hX⟩ : ∃ X, val xs = X := ⟨_, rfl⟩
  rw [hX] at hB
  have HX := Lib.hid hX
  obtain ⟨b, hb0⟩ : ∃ b, blen X = b := ⟨_, rfl⟩
  have Hb := Lib.hid hb0
  rw [hb0] at hB
  have b1 : decide ((12 : Int) < (n : Int)) = false := by simp; omega
  have b2 : decide ((k : Int) < 0) = false := by simp
  have b3 : ((k : Int) == 0) = false := beq_eq_false_iff_ne.2 (by omega)
  rw [hX, hb0] at hs
  have b4 : decide ((b : Int) < 2) = false := by simp; omega
  obtain ⟨q, hq⟩ : ∃ q, b = q + 1 := ⟨b - 1, by omega⟩
  have hX0 : X ≠ 0 := fun h => by have := blen_zero_iff.2 h; omega
  have eq1 : (b : Int) - 1 = (q : Int) := by omega
  have hq1 : q + 1 ≤ b := by omega
  have hq2 : b ≤ q + 1 := by omega
  obtain ⟨t, ht⟩ : ∃ t, 65535 / q = t := ⟨_, rfl⟩
  have et : (65535 : Int) / (q : Int) = (t : Int) := by rw [← ht]; exact (Int.natCast_ediv 65535 q).symm
  have ht2 : t ≤ 65535 := by rw [← ht]; exact Nat.div_le_self _ _
  have hge := blen_pow_ge k hX0
  rw [hb0, hq, Nat.add_sub_cancel] at hge
  have hle := blen_pow_le X k hk1
  rw [hb0] at hle
  have htk : k ≤ t ↔ k * q ≤ 65535 := by rw [← ht]; exact Nat.le_div_iff_mul_le (by omega)
  rw [hX, hb0, hq, Nat.add_sub_cancel] at hl
  have hkt := htk.2 hl
  have b5 : decide ((t : Int) < (k : Int)) = false := by simp; omega
  obtain ⟨u, hu⟩ : ∃ u, 3000 / b = u := ⟨_, rfl⟩
  have eu : (3000 : Int) / (b : Int) = (u : Int) := by rw [← hu]; exact (Int.natCast_ediv 3000 b).symm
  have huk : k ≤ u ↔ k * b ≤ 3000 := by rw [← hu]; exact Nat.le_div_iff_mul_le (by omega)
  have hu2 : u ≤ 3000 := by rw [← hu]; exact Nat.div_le_self _ _
  obtain ⟨bk, hbk⟩ : ∃ v, k * b = v := ⟨_, rfl⟩
  have ebk : (b : Int) * (k : Int) = (bk : Int) := by rw [← hbk, Nat.mul_comm k b]; exact (Int.natCast_mul b k).symm
  obtain ⟨qk, hqk⟩ : ∃ v, k * q = v := ⟨_, rfl⟩
  have eqk : (q : Int) * (k : Int) = (qk : Int) := by rw [← hqk, Nat.mul_comm k q]; exact (Int.natCast_mul q k).symm
  rw [hbk] at hle huk
  rw [hqk] at hge hl
  obtain ⟨N, hN⟩ : ∃ v, blen (X ^ k) = v := ⟨_, rfl⟩
  rw [hN] at hge hle
  have hbk2 : bk ≤ 65535 * 768 := by rw [← hbk]; exact Nat.mul_le_mul (by omega) (by omega)
  rw [hX, hN] at hov
  rw [hX, hb0, hbk] at hm
  have hku : u < k := by
    rcases Nat.lt_or_ge u k with h | h
    · exact h
    · have := huk.1 h; omega
  have b6 : decide ((u : Int) < (k : Int)) = true := by simp; omega
  have b7 : decide ((65536 : Int) < (bk : Int)) = true := by simp; omega
  have HN := Lib.hid hN
  clear htk ht hX0 hu huk hbk hqk hN hq
  clear hX hb0
  go_enter Try.func4, Try.ntmps4
  go_wp2_with fail
  refine (Hal.out).mono ?_
  rintro e w1 ⟨rfl, hb⟩
  replace hS := hS.trans (hb.mono hS.size)
  replace hA := hA.below hb
  clear hb
  go_wp2_with fail
  refine (to_any _ _ _ _ _ hA (by omega)).mono ?_
  rintro e w2 ⟨A_ds, m_ds, c_ds, ds, rfl, hm_ds, h_ds, hbare, hv, hb⟩
  have H_ds : Hid (D.val ds = X) := by rw [hv, HX.out]; rfl
  have B_ds := Lib.hid hbare
  replace hS := hS.trans (hb.mono hS.size)
  replace hA := hA.below hb
  clear hb hv hbare
  go_wp2_with fail
  refine (rbits_to b _ _ _ _ _ h_ds B_ds.out (by omega) (by rw [H_ds.out]; exact Hb)).mono ?_
  rintro e w' ⟨rfl, rfl⟩
  go_wp2_with fail
  refine (pow_long _ _ _ _ k _ hA (by omega) hk (by rw [HX.out, HN.out]; exact hov)).mono ?_
  rintro e w3 ⟨rfl, hb⟩
  replace hS := hS.trans (hb.mono hS.size)
  replace hA := hA.below hb
  replace h_ds := h_ds.below hb
  clear hb
  go_wp2
  go_ret
  exact ⟨rfl, hS⟩

set_option maxHeartbeats 4000000 in
set_option maxRecDepth 100000 in
theorem pows_mid (A : Option Addr) (n c : Nat) (xs : List Nat) (k : Nat) (w : World) (hA : Lim w A n c xs) (hn : n ≤ 12) (hk1 : 1 ≤ k) (hk : k ≤ 9223372036854775807) (hs : 2 ≤ blen (val xs)) (hl : k * (blen (val xs) - 1) ≤ 65535) (hm : 3000 < k * blen (val xs)) (hov : blen (val xs ^ k) ≤ 65536) :
    Calls Try.prog 4 #[.slice A n c, .int .i64 (k : Int)] w fun e w' => e = .returned (.bool true) ∧ Below w.heap.size w w' := by
  have Hal := Lib.hid (alive_any w)
  have hS : Below w.heap.size w w := Below.refl _ _
  have hB := hA.blen_le
  obtain ⟨X, hX⟩ : ∃ X, val xs = X := ⟨_, rfl⟩
  rw [hX] at hB
  have HX := Lib.hid hX
  obtain ⟨b, hb0⟩ : ∃ b, blen X = b := ⟨_, rfl⟩
  have Hb := Lib.hid hb0
  rw [hb0] at hB
  have b1 : decide ((12 : Int) < (n : Int)) = false := by simp; omega
  have b2 : decide ((k : Int) < 0) = false := by simp
  have b3 : ((k : Int) == 0) = false := beq_eq_false_iff_ne.2 (by omega)
  rw [hX, hb0] at hs
  have b4 : decide ((b : Int) < 2) = false := by simp; omega
  obtain ⟨q, hq⟩ : ∃ q, b = q + 1 := ⟨b - 1, by omega⟩
  have hX0 : X ≠ 0 := fun h => by have := blen_zero_iff.2 h; omega
  have eq1 : (b : Int) - 1 = (q : Int) := by omega
  have hq1 : q + 1 ≤ b := by omega
  have hq2 : b ≤ q + 1 := by omega
  obtain ⟨t, ht⟩ : ∃ t, 65535 / q = t := ⟨_, rfl⟩
  have et : (65535 : Int) / (q : Int) = (t : Int) := by rw [← ht]; exact (Int.natCast_ediv 65535 q).symm
  have ht2 : t ≤ 65535 := by rw [← ht]; exact Nat.div_le_self _ _
  have hge := blen_pow_ge k hX0
  rw [hb0, hq, Nat.add_sub_cancel] at hge
  have hle := blen_pow_le X k hk1
  rw [hb0] at hle
  have htk : k ≤ t ↔ k * q ≤ 65535 := by rw [← ht]; exact Nat.le_div_iff_mul_le (by omega)
  rw [hX, hb0, hq, Nat.add_sub_cancel] at hl
  have hkt := htk.2 hl
  have b5 : decide ((t : Int) < (k : Int)) = false := by simp; omega
  obtain ⟨u, hu⟩ : ∃ u, 3000 / b = u := ⟨_, rfl⟩
  have eu : (3000 : Int) / (b : Int) = (u : Int) := by rw [← hu]; exact (Int.natCast_ediv 3000 b).symm
  have huk : k ≤ u ↔ k * b ≤ 3000 := by rw [← hu]; exact Nat.le_div_iff_mul_le (by omega)
  have hu2 : u ≤ 3000 := by rw [← hu]; exact Nat.div_le_self _ _
  obtain ⟨bk, hbk⟩ : ∃ v, k * b = v := ⟨_, rfl⟩
  have ebk : (b : Int) * (k : Int) = (bk : Int) := by rw [← hbk, Nat.mul_comm k b]; exact (Int.natCast_mul b k).symm
  obtain ⟨qk, hqk⟩ : ∃ v, k * q = v := ⟨_, rfl⟩
  have eqk : (q : Int) * (k : Int) = (qk : Int) := by rw [← hqk, Nat.mul_comm k q]; exact (Int.natCast_mul q k).symm
  rw [hbk] at hle huk
  rw [hqk] at hge hl
  obtain ⟨N, hN⟩ : ∃ v, blen (X ^ k) = v := ⟨_, rfl⟩
  rw [hN] at hge hle
  have hbk2 : bk ≤ 65535 * 768 := by rw [← hbk]; exact Nat.mul_le_mul (by omega) (by omega)
  rw [hX, hN] at hov
  rw [hX, hb0, hbk] at hm
  have hku : u < k := by
    rcases Nat.lt_or_ge u k with h | h
    · exact h
    · have := huk.1 h; omega
  have b6 : decide ((u : Int) < (k : Int)) = true := by simp; omega
  have b7 : decide ((N : Int) ≤ 65536) = true := by simp; omega
  have b8 : decide ((N : Int) ≤ (bk : Int)) = true := by simp; omega
  have b9 : decide ((qk : Int) < (N : Int)) = true := by simp; omega
  have HN := Lib.hid hN
  clear htk ht hX0 hu huk hbk hqk hN hq
  clear hX hb0
  go_enter Try.func4, Try.ntmps4
  go_wp2_with fail
  refine (Hal.out).mono ?_
  rintro e w1 ⟨rfl, hb⟩
  replace hS := hS.trans (hb.mono hS.size)
  replace hA := hA.below hb
  clear hb
  go_wp2_with fail
  refine (to_any _ _ _ _ _ hA (by omega)).mono ?_
  rintro e w2 ⟨A_ds, m_ds, c_ds, ds, rfl, hm_ds, h_ds, hbare, hv, hb⟩
  have H_ds : Hid (D.val ds = X) := by rw [hv, HX.out]; rfl
  have B_ds := Lib.hid hbare
  replace hS := hS.trans (hb.mono hS.size)
  replace hA := hA.below hb
  clear hb hv hbare
  go_wp2_with fail
  refine (rbits_to b _ _ _ _ _ h_ds B_ds.out (by omega) (by rw [H_ds.out]; exact Hb)).mono ?_
  rintro e w' ⟨rfl, rfl⟩
  go_wp2_with fail
  refine (pow_ok _ _ _ _ k _ hA (by omega) hk (by rw [HX.out, HN.out]; exact hov)).mono ?_
  rintro e w3 ⟨A_zs, m_zs, c_zs, zs, rfl, hm_zs, h_zs, hbare, hv, hb⟩
  have H_zs : Hid (val zs = X ^ k) := by rw [hv, HX.out]; rfl
  have B_zs := Lib.hid hbare
  replace hS := hS.trans (hb.mono hS.size)
  replace hA := hA.below hb
  replace h_ds := h_ds.below hb
  clear hb hv hbare
  go_wp2_with fail
  refine (bits_to N _ _ _ _ _ h_zs (by omega) (by rw [H_zs.out]; exact HN)).mono ?_
  rintro e w' ⟨rfl, rfl⟩
  go_wp2
  go_ret
  exact ⟨rfl, hS⟩

set_option maxHeartbeats 4000000 in
set_option maxRecDepth 100000 in
theorem pows_near (A : Option Addr) (n c : Nat) (xs : List Nat) (k : Nat) (w : World) (hA : Lim w A n c xs) (hn : n ≤ 12) (hk1 : 1 ≤ k) (hk : k ≤ 9223372036854775807) (hs : 2 ≤ blen (val xs)) (hl : k * (blen (val xs) - 1) ≤ 65535) (hm : k * blen (val xs) ≤ 3000) :
    Calls Try.prog 4 #[.slice A n c, .int .i64 (k : Int)] w fun e w' => e = .returned (.bool true) ∧ Below w.heap.size w w' := by
  have Hal := Lib.hid (alive_any w)
  have hS : Below w.heap.size w w := Below.refl _ _
  have hB := hA.blen_le
  obtain ⟨X, hX⟩ : ∃ X, val xs = X := ⟨_, rfl⟩
  rw [hX] at hB
  have HX := Lib.hid hX
  obtain ⟨b, hb0⟩ : ∃ b, blen X = b := ⟨_, rfl⟩
  have Hb := Lib.hid hb0
  rw [hb0] at hB
  have b1 : decide ((12 : Int) < (n : Int)) = false := by simp; omega
  have b2 : decide ((k : Int) < 0) = false := by simp
  have b3 : ((k : Int) == 0) = false := beq_eq_false_iff_ne.2 (by omega)
  rw [hX, hb0] at hs
  have b4 : decide ((b : Int) < 2) = false := by simp; omega
  obtain ⟨q, hq⟩ : ∃ q, b = q + 1 := ⟨b - 1, by omega⟩
  have hX0 : X ≠ 0 := fun h => by have := blen_zero_iff.2 h; omega
  have eq1 : (b : Int) - 1 = (q : Int) := by omega
  have hq1 : q + 1 ≤ b := by omega
  have hq2 : b ≤ q + 1 := by omega
  obtain ⟨t, ht⟩ : ∃ t, 65535 / q = t := ⟨_, rfl⟩
  have et : (65535 : Int) / (q : Int) = (t : Int) := by rw [← ht]; exact (Int.natCast_ediv 65535 q).symm
  have ht2 : t ≤ 65535 := by rw [← ht]; exact Nat.div_le_self _ _
  have hge := blen_pow_ge k hX0
  rw [hb0, hq, Nat.add_sub_cancel] at hge
  have hle := blen_pow_le X k hk1
  rw [hb0] at hle
  have htk : k ≤ t ↔ k * q ≤ 65535 := by rw [← ht]; exact Nat.le_div_iff_mul_le (by omega)
  rw [hX, hb0, hq, Nat.add_sub_cancel] at hl
  have hkt := htk.2 hl
  have b5 : decide ((t : Int) < (k : Int)) = false := by simp; omega
  obtain ⟨u, hu⟩ : ∃ u, 3000 / b = u := ⟨_, rfl⟩
  have eu : (3000 : Int) / (b : Int) = (u : Int) := by rw [← hu]; exact (Int.natCast_ediv 3000 b).symm
  have huk : k ≤ u ↔ k * b ≤ 3000 := by rw [← hu]; exact Nat.le_div_iff_mul_le (by omega)
  have hu2 : u ≤ 3000 := by rw [← hu]; exact Nat.div_le_self _ _
  obtain ⟨bk, hbk⟩ : ∃ v, k * b = v := ⟨_, rfl⟩
  have ebk : (b : Int) * (k : Int) = (bk : Int) := by rw [← hbk, Nat.mul_comm k b]; exact (Int.natCast_mul b k).symm
  obtain ⟨qk, hqk⟩ : ∃ v, k * q = v := ⟨_, rfl⟩
  have eqk : (q : Int) * (k : Int) = (qk : Int) := by rw [← hqk, Nat.mul_comm k q]; exact (Int.natCast_mul q k).symm
  rw [hbk] at hle huk
  rw [hqk] at hge hl
  obtain ⟨N, hN⟩ : ∃ v, blen (X ^ k) = v := ⟨_, rfl⟩
  rw [hN] at hge hle
  have hbk2 : bk ≤ 65535 * 768 := by rw [← hbk]; exact Nat.mul_le_mul (by omega) (by omega)
  rw [hX, hb0, hbk] at hm
  have hku := huk.2 hm
  have b6 : decide ((u : Int) < (k : Int)) = false := by simp; omega
  have HN := Lib.hid hN
  have HX1 : Hid (1 ≤ X) := by show 1 ≤ X; omega
  have Hlt : Hid (X ^ k < D.pw 188) := by
    exact lt_dpw (by rw [hN]; omega)
  clear htk ht hX0 hu huk hbk hqk hN hq
  clear hX hb0
  go_enter Try.func4, Try.ntmps4
  go_wp2_with fail
  refine (Hal.out).mono ?_
  rintro e w1 ⟨rfl, hb⟩
  replace hS := hS.trans (hb.mono hS.size)
  replace hA := hA.below hb
  clear hb
  go_wp2_with fail
  refine (to_any _ _ _ _ _ hA (by omega)).mono ?_
  rintro e w2 ⟨A_ds, m_ds, c_ds, ds, rfl, hm_ds, h_ds, hbare, hv, hb⟩
  have H_ds : Hid (D.val ds = X) := by rw [hv, HX.out]; rfl
  have B_ds := Lib.hid hbare
  replace hS := hS.trans (hb.mono hS.size)
  replace hA := hA.below hb
  clear hb hv hbare
  go_wp2_with fail
  refine (rbits_to b _ _ _ _ _ h_ds B_ds.out (by omega) (by rw [H_ds.out]; exact Hb)).mono ?_
  rintro e w' ⟨rfl, rfl⟩
  go_wp2_with fail
  refine (pow_ok _ _ _ _ k _ hA (by omega) hk (by rw [HX.out, HN.out]; omega)).mono ?_
  rintro e w3 ⟨A_zs, m_zs, c_zs, zs, rfl, hm_zs, h_zs, hbare, hv, hb⟩
  have H_zs : Hid (val zs = X ^ k) := by rw [hv, HX.out]; rfl
  have B_zs := Lib.hid hbare
  replace hS := hS.trans (hb.mono hS.size)
  replace hA := hA.below hb
  replace h_ds := h_ds.below hb
  clear hb hv hbare
  go_wp2_with fail
  refine (rpow_any 188 _ _ _ _ k _ h_ds (by rw [H_ds.out]; exact HX1.out) (by omega) (by omega) (by decide) (by decide) (by rw [H_ds.out]; exact Hlt.out)).mono ?_
  rintro e w4 ⟨A_ps, m_ps, c_ps, ps, rfl, hm_ps, h_ps, hbare, hv, hb⟩
  have H_ps : Hid (D.val ps = X ^ k) := by rw [hv, H_ds.out]; rfl
  have B_ps := Lib.hid hbare
  replace hS := hS.trans (hb.mono hS.size)
  replace hA := hA.below hb
  replace h_ds := h_ds.below hb
  replace h_zs := h_zs.below hb
  clear hb hv hbare
  go_wp2_with fail
  refine (same_any _ _ _ _ _ _ _ _ _ h_zs B_zs.out h_ps B_ps.out (by rw [H_zs.out, H_ps.out]) (by omega)).mono ?_
  rintro e w5 ⟨rfl, hb⟩
  replace hS := hS.trans (hb.mono hS.size)
  replace hA := hA.below hb
  replace h_ds := h_ds.below hb
  replace h_zs := h_zs.below hb
  replace h_ps := h_ps.below hb
  clear hb
  go_wp2
  go_ret
  exact ⟨rfl, hS⟩

theorem walk_prodPows (A : Option Addr) (n c : Nat) (xs : List Nat) (k : Int) (w : World)
    (hA : Lim w A n c xs) (hn : n ≤ 9223372036854775807) (hk : -9223372036854775808 ≤ k) (hk2 : k ≤ 9223372036854775807) :
    Calls Try.prog 4 #[.slice A n c, .int .i64 k] w fun e w' => e = .returned (.bool true) ∧ Below w.heap.size w w' := by
  by_cases h : 12 < n
  · exact pows_far A n c k w hn h
  · by_cases h0 : k < 0
    · exact pows_neg A n c xs k w hA (by omega) h0
    · obtain ⟨j, rfl⟩ : ∃ j : Nat, k = (j : Int) := ⟨k.toNat, by omega⟩
      by_cases h1 : j = 0
      · subst h1; exact pows_zero A n c xs w hA (by omega)
      · by_cases h2 : blen (val xs) < 2
        · exact pows_small A n c xs j w hA (by omega) (by omega) (by omega) h2
        · by_cases h3 : 65535 < j * (blen (val xs) - 1)
          · exact pows_long A n c xs j w hA (by omega) (by omega) (by omega) (by omega) h3
          · by_cases h4 : j * blen (val xs) ≤ 3000
            · exact pows_near A n c xs j w hA (by omega) (by omega) (by omega) (by omega) (by omega) h4
            · by_cases h5 : blen (val xs ^ j) ≤ 65536
              · exact pows_mid A n c xs j w hA (by omega) (by omega) (by omega) (by omega) (by omega) (by omega) h5
              · exact pows_over A n c xs j w hA (by omega) (by omega) (by omega) (by omega) (by omega) (by omega) (by omega)
end Go.Proofs.Ytimajgbkmblfmaa
