/- The walk of the law RootHalves. (Written by law_rhalves.py.) -/
import Derived.Test.YtkgbgmhkbigjhaaDoorRAlive
namespace Go.Proofs.YtkgbgmhkbigjhaaDoor
open Go.RowKit

set_option maxHeartbeats 4000000 in
set_option maxRecDepth 100000 in
theorem rhalves_far (A : Option Addr) (n c : Nat) (k most : Int) (w : World) (hT : Tab w)
    (hn : n ≤ 9223372036854775807) (hfar : 10 < n) :
    Calls Tryd.prog 4 #[.slice A n c, .int .i64 k, .int .i64 most] w fun e w' => e = .returned (.bool true) ∧ Below w.heap.size w w' := by
  have Hal := Lib.hid (ralive_any w hT)
  have b1 : decide ((10 : Int) < (n : Int)) = true := by simp; omega
  clear hfar hT
  go_enter Tryd.func4, Tryd.ntmps4
  go_wp2_with fail
  refine Hal.out.mono ?_
  rintro e w1 ⟨rfl, hb⟩
  go_wp2
  go_ret
  exact ⟨rfl, hb⟩

/-- Of a number of at most 640 bits a great root is 0 or 1. -/
theorem great_root {V K : Nat} (hV : blen V ≤ 640) (hK : 10 < K) : rt (2 ^ K) V = min (blen V) 1 ∧ (Ex (2 ^ K) V ↔ V ≤ 1) := by
  have h1 : (2 : Nat) ^ 10 ≤ 2 ^ K := Nat.pow_le_pow_right (by decide) (by omega)
  have h2 := rt_few (k := 2 ^ K) (a := V) (Nat.two_pow_pos K) (by have : (2 : Nat) ^ 10 = 1024 := by decide
                                                                  omega)
  refine ⟨h2, ?_⟩
  unfold Ex
  rw [h2]
  rcases Nat.eq_zero_or_pos V with rfl | h0
  · rw [blen_zero]
    exact ⟨fun _ => by omega, fun _ => by rw [Nat.zero_min, Nat.zero_pow (Nat.two_pow_pos K)]⟩
  · rw [Nat.min_eq_right (blen_pos (by omega)), Nat.one_pow]
    omega
theorem blen_le_one {V : Nat} : V ≤ 1 ↔ blen V ≤ 1 := by
  have := blen_le_iff (x := V) (k := 1)
  omega

set_option maxHeartbeats 8000000 in
set_option maxRecDepth 100000 in
theorem rhalves_nn (A : Option Addr) (n c : Nat) (xs : List Nat) (b : Nat) (k : Int) (hk : k < 0) (most : Int) (hmost : most < 0) (w : World) (hT : Tab w) (hA : Lim w A n c xs) (hn : n ≤ 10) (Hb : Hid (blen (val xs) = b)) :
    Calls Tryd.prog 4 #[.slice A n c, .int .i64 k, .int .i64 most] w fun e w' => e = .returned (.bool true) ∧ Below w.heap.size w w' := by
  have Hal := Lib.hid (ralive_any w hT)
  have hS : Below w.heap.size w w := Below.refl _ _
  have c1 : decide ((10 : Int) < (n : Int)) = false := by simp; omega
  have hbl : b ≤ 640 := by rw [← Hb.out]; have := hA.blen_le; omega
  have m1 : decide (most < 0) = true := by simp; exact hmost
  go_enter Tryd.func4, Tryd.ntmps4
  go_wp2_with fail
  refine (Hal.out).mono ?_
  rintro e w1 ⟨rfl, hb⟩
  replace hS := hS.trans (hb.mono hS.size)
  replace hT := hT.below hb
  replace hA := hA.below hb
  clear hb
  go_wp2_with fail
  refine (halves_arg _ _ _ _ _ hk).mono ?_
  rintro e w' ⟨rfl, rfl⟩
  go_wp2_with fail
  refine (order_arg _ _ _ _ _ _ hA (by omega) (Or.inl hmost)).mono ?_
  rintro e w' ⟨rfl, rfl⟩
  go_wp2_with fail
  refine (bits_v b _ _ _ _ _ hA (by omega) Hb).mono ?_
  rintro e w' ⟨rfl, rfl⟩
  go_wp2
  go_ret
  exact ⟨rfl, hS⟩

set_option maxHeartbeats 8000000 in
set_option maxRecDepth 100000 in
theorem rhalves_nb0 (A : Option Addr) (n c : Nat) (xs : List Nat) (b : Nat) (K : Nat) (hk : K ≤ 9223372036854775807) (hK : 10 < K) (most : Int) (hmost : most < 0) (w : World) (hT : Tab w) (hA : Lim w A n c xs) (hn : n ≤ 10) (Hb : Hid (blen (val xs) = b)) (hb0 : b = 0) :
    Calls Tryd.prog 4 #[.slice A n c, .int .i64 (K : Int), .int .i64 most] w fun e w' => e = .returned (.bool true) ∧ Below w.heap.size w w' := by
  have Hal := Lib.hid (ralive_any w hT)
  have hS : Below w.heap.size w w := Below.refl _ _
  have c1 : decide ((10 : Int) < (n : Int)) = false := by simp; omega
  have hbl : b ≤ 640 := by rw [← Hb.out]; have := hA.blen_le; omega
  subst hb0
  have m1 : decide (most < 0) = true := by simp; exact hmost
  have k1 : decide ((K : Int) < 0) = false := by simp
  have k2 : decide ((10 : Int) < (K : Int)) = true := by simp; omega
  obtain ⟨g1, g2⟩ := great_root (V := val xs) (K := K) (by rw [Hb.out]; omega) hK
  rw [blen_le_one, Hb.out] at g2
  have HE : Hid (decide (Ex (2 ^ K) (val xs)) = true) := decide_eq_true (g2.2 (by omega))
  have HR : Hid (rt (2 ^ K) (val xs) = 0) := by rw [g1, Hb.out]; show min _ 1 = _; omega
  clear g1 g2
  go_enter Tryd.func4, Tryd.ntmps4
  go_wp2_with fail
  refine (Hal.out).mono ?_
  rintro e w1 ⟨rfl, hb⟩
  replace hS := hS.trans (hb.mono hS.size)
  replace hT := hT.below hb
  replace hA := hA.below hb
  clear hb
  go_wp2_with fail
  refine (halves_any K true _ _ _ _ _ hA (by omega) hT (by omega) (by rw [Hb.out]; omega) HE).mono ?_
  rintro e w2 ⟨A_xx, m_xx, c_xx, xx, rfl, hm_xx, h_xx, hbare, hv, hb⟩
  have H_xx : Hid (val xx = 0) := by rw [hv, HR.out]; rfl
  have B_xx := Lib.hid hbare
  replace hS := hS.trans (hb.mono hS.size)
  replace hT := hT.below hb
  replace hA := hA.below hb
  clear hb hv hbare
  go_wp2_with fail
  refine (order_arg _ _ _ _ _ _ hA (by omega) (Or.inl hmost)).mono ?_
  rintro e w' ⟨rfl, rfl⟩
  go_wp2_with fail
  refine (bits_v 0 _ _ _ _ _ hA (by omega) Hb).mono ?_
  rintro e w' ⟨rfl, rfl⟩
  obtain rfl : m_xx = 0 := (bare_zero h_xx B_xx.out).2 H_xx.out
  go_wp2
  go_ret
  exact ⟨rfl, hS⟩

set_option maxHeartbeats 8000000 in
set_option maxRecDepth 100000 in
theorem rhalves_nb1 (A : Option Addr) (n c : Nat) (xs : List Nat) (b : Nat) (K : Nat) (hk : K ≤ 9223372036854775807) (hK : 10 < K) (most : Int) (hmost : most < 0) (w : World) (hT : Tab w) (hA : Lim w A n c xs) (hn : n ≤ 10) (Hb : Hid (blen (val xs) = b)) (hb1 : b = 1) :
    Calls Tryd.prog 4 #[.slice A n c, .int .i64 (K : Int), .int .i64 most] w fun e w' => e = .returned (.bool true) ∧ Below w.heap.size w w' := by
  have Hal := Lib.hid (ralive_any w hT)
  have hS : Below w.heap.size w w := Below.refl _ _
  have c1 : decide ((10 : Int) < (n : Int)) = false := by simp; omega
  have hbl : b ≤ 640 := by rw [← Hb.out]; have := hA.blen_le; omega
  subst hb1
  have m1 : decide (most < 0) = true := by simp; exact hmost
  have k1 : decide ((K : Int) < 0) = false := by simp
  have k2 : decide ((10 : Int) < (K : Int)) = true := by simp; omega
  obtain ⟨g1, g2⟩ := great_root (V := val xs) (K := K) (by rw [Hb.out]; omega) hK
  rw [blen_le_one, Hb.out] at g2
  have HE : Hid (decide (Ex (2 ^ K) (val xs)) = true) := decide_eq_true (g2.2 (by omega))
  have HR : Hid (rt (2 ^ K) (val xs) = 1) := by rw [g1, Hb.out]; show min _ 1 = _; omega
  clear g1 g2
  go_enter Tryd.func4, Tryd.ntmps4
  go_wp2_with fail
  refine (Hal.out).mono ?_
  rintro e w1 ⟨rfl, hb⟩
  replace hS := hS.trans (hb.mono hS.size)
  replace hT := hT.below hb
  replace hA := hA.below hb
  clear hb
  go_wp2_with fail
  refine (halves_any K true _ _ _ _ _ hA (by omega) hT (by omega) (by rw [Hb.out]; omega) HE).mono ?_
  rintro e w2 ⟨A_xx, m_xx, c_xx, xx, rfl, hm_xx, h_xx, hbare, hv, hb⟩
  have H_xx : Hid (val xx = 1) := by rw [hv, HR.out]; rfl
  have B_xx := Lib.hid hbare
  replace hS := hS.trans (hb.mono hS.size)
  replace hT := hT.below hb
  replace hA := hA.below hb
  clear hb hv hbare
  go_wp2_with fail
  refine (order_arg _ _ _ _ _ _ hA (by omega) (Or.inl hmost)).mono ?_
  rintro e w' ⟨rfl, rfl⟩
  go_wp2_with fail
  refine (bits_v 1 _ _ _ _ _ hA (by omega) Hb).mono ?_
  rintro e w' ⟨rfl, rfl⟩
  go_wp2_with fail
  refine (cmp_b 0 _ _ _ _ _ _ _ _ _ (h_xx.alloc _) (lim_new1 w2 33 1 1 rfl (by decide)) (by omega) (by decide) (cmpZ_eq (by rw [H_xx.out]; rfl))).mono ?_
  rintro e w3 ⟨rfl, hb⟩
  replace hb := below_new hb
  replace hS := hS.trans (hb.mono hS.size)
  replace hT := hT.below hb
  replace hA := hA.below hb
  replace h_xx := h_xx.below hb
  clear hb
  go_wp2
  go_ret
  exact ⟨rfl, hS⟩

set_option maxHeartbeats 8000000 in
set_option maxRecDepth 100000 in
theorem rhalves_nb2 (A : Option Addr) (n c : Nat) (xs : List Nat) (b : Nat) (K : Nat) (hk : K ≤ 9223372036854775807) (hK : 10 < K) (most : Int) (hmost : most < 0) (w : World) (hT : Tab w) (hA : Lim w A n c xs) (hn : n ≤ 10) (Hb : Hid (blen (val xs) = b)) (hb2 : 2 ≤ b) :
    Calls Tryd.prog 4 #[.slice A n c, .int .i64 (K : Int), .int .i64 most] w fun e w' => e = .returned (.bool true) ∧ Below w.heap.size w w' := by
  have Hal := Lib.hid (ralive_any w hT)
  have hS : Below w.heap.size w w := Below.refl _ _
  have c1 : decide ((10 : Int) < (n : Int)) = false := by simp; omega
  have hbl : b ≤ 640 := by rw [← Hb.out]; have := hA.blen_le; omega
  have d1 : ((b : Int) == 0) = false := beq_eq_false_iff_ne.2 (by omega)
  have d2 : ((b : Int) == 1) = false := beq_eq_false_iff_ne.2 (by omega)
  have d3 : decide ((0 : Int) < (b : Int)) = true := by simp; omega
  have m1 : decide (most < 0) = true := by simp; exact hmost
  have k1 : decide ((K : Int) < 0) = false := by simp
  have k2 : decide ((10 : Int) < (K : Int)) = true := by simp; omega
  obtain ⟨g1, g2⟩ := great_root (V := val xs) (K := K) (by rw [Hb.out]; omega) hK
  rw [blen_le_one, Hb.out] at g2
  have HE : Hid (decide (Ex (2 ^ K) (val xs)) = false) := decide_eq_false (fun h => by have := g2.1 h; omega)
  have HR : Hid (rt (2 ^ K) (val xs) = 1) := by rw [g1, Hb.out]; show min _ 1 = _; omega
  clear g1 g2
  go_enter Tryd.func4, Tryd.ntmps4
  go_wp2_with fail
  refine (Hal.out).mono ?_
  rintro e w1 ⟨rfl, hb⟩
  replace hS := hS.trans (hb.mono hS.size)
  replace hT := hT.below hb
  replace hA := hA.below hb
  clear hb
  go_wp2_with fail
  refine (halves_any K false _ _ _ _ _ hA (by omega) hT (by omega) (by rw [Hb.out]; omega) HE).mono ?_
  rintro e w2 ⟨A_xx, m_xx, c_xx, xx, rfl, hm_xx, h_xx, hbare, hv, hb⟩
  have H_xx : Hid (val xx = 1) := by rw [hv, HR.out]; rfl
  have B_xx := Lib.hid hbare
  replace hS := hS.trans (hb.mono hS.size)
  replace hT := hT.below hb
  replace hA := hA.below hb
  clear hb hv hbare
  go_wp2_with fail
  refine (order_arg _ _ _ _ _ _ hA (by omega) (Or.inl hmost)).mono ?_
  rintro e w' ⟨rfl, rfl⟩
  go_wp2_with fail
  refine (bits_v b _ _ _ _ _ hA (by omega) Hb).mono ?_
  rintro e w' ⟨rfl, rfl⟩
  go_wp2_with fail
  refine (cmp_b 0 _ _ _ _ _ _ _ _ _ (h_xx.alloc _) (lim_new1 w2 33 1 1 rfl (by decide)) (by omega) (by decide) (cmpZ_eq (by rw [H_xx.out]; rfl))).mono ?_
  rintro e w3 ⟨rfl, hb⟩
  replace hb := below_new hb
  replace hS := hS.trans (hb.mono hS.size)
  replace hT := hT.below hb
  replace hA := hA.below hb
  replace h_xx := h_xx.below hb
  clear hb
  go_wp2
  go_ret
  exact ⟨rfl, hS⟩

set_option maxHeartbeats 8000000 in
set_option maxRecDepth 100000 in
theorem rhalves_ns (A : Option Addr) (n c : Nat) (xs : List Nat) (b : Nat) (K : Nat) (hK : K ≤ 10) (most : Int) (hmost : most < 0) (w : World) (hT : Tab w) (hA : Lim w A n c xs) (hn : n ≤ 10) (Hb : Hid (blen (val xs) = b)) :
    Calls Tryd.prog 4 #[.slice A n c, .int .i64 (K : Int), .int .i64 most] w fun e w' => e = .returned (.bool true) ∧ Below w.heap.size w w' := by
  have Hal := Lib.hid (ralive_any w hT)
  have hS : Below w.heap.size w w := Below.refl _ _
  have c1 : decide ((10 : Int) < (n : Int)) = false := by simp; omega
  have hbl : b ≤ 640 := by rw [← Hb.out]; have := hA.blen_le; omega
  have m1 : decide (most < 0) = true := by simp; exact hmost
  have k1 : decide ((K : Int) < 0) = false := by simp
  have k2 : decide ((10 : Int) < (K : Int)) = false := by simp; omega
  obtain ⟨z, hz⟩ : ∃ z, 2 ^ K = z := ⟨_, rfl⟩
  have hz1 : 1 ≤ z := by rw [← hz]; exact Nat.two_pow_pos K
  have hz2 : z ≤ 1024 := by rw [← hz]; exact Nat.le_trans (Nat.pow_le_pow_right (by decide) hK) (show (2 : Nat) ^ 10 ≤ 1024 by decide)
  have ez : (2 : Int) ^ K = (z : Int) := by rw [← hz]; exact (Int.natCast_pow 2 K).symm
  have Hz := Lib.hid hz
  obtain ⟨R, hR⟩ : ∃ R, rt (2 ^ K) (val xs) = R := ⟨_, rfl⟩
  have HR := Lib.hid hR
  have HR2 : Hid (rt z (val xs) = R) := by rw [← hz]; exact hR
  obtain ⟨bb, hbb⟩ : ∃ bb, decide (Ex (2 ^ K) (val xs)) = bb := ⟨_, rfl⟩
  have HE := Lib.hid hbb
  have HE2 : Hid (decide (Ex z (val xs)) = bb) := by rw [← hz]; exact hbb
  clear hz hR hbb
  go_enter Tryd.func4, Tryd.ntmps4
  go_wp2_with fail
  refine (Hal.out).mono ?_
  rintro e w1 ⟨rfl, hb⟩
  replace hS := hS.trans (hb.mono hS.size)
  replace hT := hT.below hb
  replace hA := hA.below hb
  clear hb
  go_wp2_with fail
  refine (halves_any K bb _ _ _ _ _ hA (by omega) hT (by omega) (by rw [Hb.out]; omega) HE).mono ?_
  rintro e w2 ⟨A_xx, m_xx, c_xx, xx, rfl, hm_xx, h_xx, hbare, hv, hb⟩
  have H_xx : Hid (val xx = R) := by rw [hv, HR.out]; rfl
  have B_xx := Lib.hid hbare
  replace hS := hS.trans (hb.mono hS.size)
  replace hT := hT.below hb
  replace hA := hA.below hb
  clear hb hv hbare
  go_wp2_with fail
  refine (order_arg _ _ _ _ _ _ hA (by omega) (Or.inl hmost)).mono ?_
  rintro e w' ⟨rfl, rfl⟩
  go_wp2_with fail
  refine (bits_v b _ _ _ _ _ hA (by omega) Hb).mono ?_
  rintro e w' ⟨rfl, rfl⟩
  go_wp2_with fail
  refine (root_any z bb _ _ _ _ _ hA (by omega) hT hz1 (by omega) (by rw [Hb.out]; omega) HE2).mono ?_
  rintro e w3 ⟨A_yy, m_yy, c_yy, yy, rfl, hm_yy, h_yy, hbare, hv, hb⟩
  have H_yy : Hid (val yy = R) := by rw [hv, HR2.out]; rfl
  have B_yy := Lib.hid hbare
  replace hS := hS.trans (hb.mono hS.size)
  replace hT := hT.below hb
  replace hA := hA.below hb
  replace h_xx := h_xx.below hb
  clear hb hv hbare
  go_wp2_with fail
  refine (cmp_b 0 _ _ _ _ _ _ _ _ _ h_xx h_yy (by omega) (by omega) (cmpZ_eq (by rw [H_xx.out, H_yy.out]))).mono ?_
  rintro e w4 ⟨rfl, hb⟩
  replace hS := hS.trans (hb.mono hS.size)
  replace hT := hT.below hb
  replace hA := hA.below hb
  replace h_xx := h_xx.below hb
  replace h_yy := h_yy.below hb
  clear hb
  cases bb <;> (go_wp2; go_ret; exact ⟨rfl, hS⟩)

set_option maxHeartbeats 8000000 in
set_option maxRecDepth 100000 in
theorem rhalves_zn (A : Option Addr) (n c : Nat) (xs : List Nat) (b : Nat) (k : Int) (hk : k < 0) (most : Nat) (_hmost : most ≤ 9223372036854775807) (w : World) (hT : Tab w) (hA : Lim w A n c xs) (hn : n ≤ 10) (Hb : Hid (blen (val xs) = b)) (hb0 : b = 0) :
    Calls Tryd.prog 4 #[.slice A n c, .int .i64 k, .int .i64 (most : Int)] w fun e w' => e = .returned (.bool true) ∧ Below w.heap.size w w' := by
  have Hal := Lib.hid (ralive_any w hT)
  have hS : Below w.heap.size w w := Below.refl _ _
  have c1 : decide ((10 : Int) < (n : Int)) = false := by simp; omega
  have hbl : b ≤ 640 := by rw [← Hb.out]; have := hA.blen_le; omega
  subst hb0
  have m1 : decide ((most : Int) < 0) = false := by simp
  go_enter Tryd.func4, Tryd.ntmps4
  go_wp2_with fail
  refine (Hal.out).mono ?_
  rintro e w1 ⟨rfl, hb⟩
  replace hS := hS.trans (hb.mono hS.size)
  replace hT := hT.below hb
  replace hA := hA.below hb
  clear hb
  go_wp2_with fail
  refine (halves_arg _ _ _ _ _ hk).mono ?_
  rintro e w' ⟨rfl, rfl⟩
  go_wp2_with fail
  refine (order_arg _ _ _ _ _ _ hA (by omega) (Or.inr (blen_zero_iff.1 Hb.out))).mono ?_
  rintro e w' ⟨rfl, rfl⟩
  go_wp2_with fail
  refine (bits_v 0 _ _ _ _ _ hA (by omega) Hb).mono ?_
  rintro e w' ⟨rfl, rfl⟩
  go_wp2
  go_ret
  exact ⟨rfl, hS⟩

set_option maxHeartbeats 8000000 in
set_option maxRecDepth 100000 in
theorem rhalves_zb (A : Option Addr) (n c : Nat) (xs : List Nat) (b : Nat) (K : Nat) (hk : K ≤ 9223372036854775807) (hK : 10 < K) (most : Nat) (_hmost : most ≤ 9223372036854775807) (w : World) (hT : Tab w) (hA : Lim w A n c xs) (hn : n ≤ 10) (Hb : Hid (blen (val xs) = b)) (hb0 : b = 0) :
    Calls Tryd.prog 4 #[.slice A n c, .int .i64 (K : Int), .int .i64 (most : Int)] w fun e w' => e = .returned (.bool true) ∧ Below w.heap.size w w' := by
  have Hal := Lib.hid (ralive_any w hT)
  have hS : Below w.heap.size w w := Below.refl _ _
  have c1 : decide ((10 : Int) < (n : Int)) = false := by simp; omega
  have hbl : b ≤ 640 := by rw [← Hb.out]; have := hA.blen_le; omega
  subst hb0
  have m1 : decide ((most : Int) < 0) = false := by simp
  have k1 : decide ((K : Int) < 0) = false := by simp
  have k2 : decide ((10 : Int) < (K : Int)) = true := by simp; omega
  obtain ⟨g1, g2⟩ := great_root (V := val xs) (K := K) (by rw [Hb.out]; omega) hK
  rw [blen_le_one, Hb.out] at g2
  have HE : Hid (decide (Ex (2 ^ K) (val xs)) = true) := decide_eq_true (g2.2 (by omega))
  have HR : Hid (rt (2 ^ K) (val xs) = 0) := by rw [g1, Hb.out]; show min _ 1 = _; omega
  clear g1 g2
  go_enter Tryd.func4, Tryd.ntmps4
  go_wp2_with fail
  refine (Hal.out).mono ?_
  rintro e w1 ⟨rfl, hb⟩
  replace hS := hS.trans (hb.mono hS.size)
  replace hT := hT.below hb
  replace hA := hA.below hb
  clear hb
  go_wp2_with fail
  refine (halves_any K true _ _ _ _ _ hA (by omega) hT (by omega) (by rw [Hb.out]; omega) HE).mono ?_
  rintro e w2 ⟨A_xx, m_xx, c_xx, xx, rfl, hm_xx, h_xx, hbare, hv, hb⟩
  have H_xx : Hid (val xx = 0) := by rw [hv, HR.out]; rfl
  have B_xx := Lib.hid hbare
  replace hS := hS.trans (hb.mono hS.size)
  replace hT := hT.below hb
  replace hA := hA.below hb
  clear hb hv hbare
  go_wp2_with fail
  refine (order_arg _ _ _ _ _ _ hA (by omega) (Or.inr (blen_zero_iff.1 Hb.out))).mono ?_
  rintro e w' ⟨rfl, rfl⟩
  go_wp2_with fail
  refine (bits_v 0 _ _ _ _ _ hA (by omega) Hb).mono ?_
  rintro e w' ⟨rfl, rfl⟩
  obtain rfl : m_xx = 0 := (bare_zero h_xx B_xx.out).2 H_xx.out
  go_wp2
  go_ret
  exact ⟨rfl, hS⟩

set_option maxHeartbeats 8000000 in
set_option maxRecDepth 100000 in
theorem rhalves_zs (A : Option Addr) (n c : Nat) (xs : List Nat) (b : Nat) (K : Nat) (hK : K ≤ 10) (most : Nat) (_hmost : most ≤ 9223372036854775807) (w : World) (hT : Tab w) (hA : Lim w A n c xs) (hn : n ≤ 10) (Hb : Hid (blen (val xs) = b)) (hb0 : b = 0) :
    Calls Tryd.prog 4 #[.slice A n c, .int .i64 (K : Int), .int .i64 (most : Int)] w fun e w' => e = .returned (.bool true) ∧ Below w.heap.size w w' := by
  have Hal := Lib.hid (ralive_any w hT)
  have hS : Below w.heap.size w w := Below.refl _ _
  have c1 : decide ((10 : Int) < (n : Int)) = false := by simp; omega
  have hbl : b ≤ 640 := by rw [← Hb.out]; have := hA.blen_le; omega
  subst hb0
  have m1 : decide ((most : Int) < 0) = false := by simp
  have k1 : decide ((K : Int) < 0) = false := by simp
  have k2 : decide ((10 : Int) < (K : Int)) = false := by simp; omega
  obtain ⟨z, hz⟩ : ∃ z, 2 ^ K = z := ⟨_, rfl⟩
  have hz1 : 1 ≤ z := by rw [← hz]; exact Nat.two_pow_pos K
  have hz2 : z ≤ 1024 := by rw [← hz]; exact Nat.le_trans (Nat.pow_le_pow_right (by decide) hK) (show (2 : Nat) ^ 10 ≤ 1024 by decide)
  have ez : (2 : Int) ^ K = (z : Int) := by rw [← hz]; exact (Int.natCast_pow 2 K).symm
  have Hz := Lib.hid hz
  obtain ⟨R, hR⟩ : ∃ R, rt (2 ^ K) (val xs) = R := ⟨_, rfl⟩
  have HR := Lib.hid hR
  have HR2 : Hid (rt z (val xs) = R) := by rw [← hz]; exact hR
  obtain ⟨bb, hbb⟩ : ∃ bb, decide (Ex (2 ^ K) (val xs)) = bb := ⟨_, rfl⟩
  have HE := Lib.hid hbb
  have HE2 : Hid (decide (Ex z (val xs)) = bb) := by rw [← hz]; exact hbb
  clear hz hR hbb
  go_enter Tryd.func4, Tryd.ntmps4
  go_wp2_with fail
  refine (Hal.out).mono ?_
  rintro e w1 ⟨rfl, hb⟩
  replace hS := hS.trans (hb.mono hS.size)
  replace hT := hT.below hb
  replace hA := hA.below hb
  clear hb
  go_wp2_with fail
  refine (halves_any K bb _ _ _ _ _ hA (by omega) hT (by omega) (by rw [Hb.out]; omega) HE).mono ?_
  rintro e w2 ⟨A_xx, m_xx, c_xx, xx, rfl, hm_xx, h_xx, hbare, hv, hb⟩
  have H_xx : Hid (val xx = R) := by rw [hv, HR.out]; rfl
  have B_xx := Lib.hid hbare
  replace hS := hS.trans (hb.mono hS.size)
  replace hT := hT.below hb
  replace hA := hA.below hb
  clear hb hv hbare
  go_wp2_with fail
  refine (order_arg _ _ _ _ _ _ hA (by omega) (Or.inr (blen_zero_iff.1 Hb.out))).mono ?_
  rintro e w' ⟨rfl, rfl⟩
  go_wp2_with fail
  refine (bits_v 0 _ _ _ _ _ hA (by omega) Hb).mono ?_
  rintro e w' ⟨rfl, rfl⟩
  go_wp2_with fail
  refine (root_any z bb _ _ _ _ _ hA (by omega) hT hz1 (by omega) (by rw [Hb.out]; omega) HE2).mono ?_
  rintro e w3 ⟨A_yy, m_yy, c_yy, yy, rfl, hm_yy, h_yy, hbare, hv, hb⟩
  have H_yy : Hid (val yy = R) := by rw [hv, HR2.out]; rfl
  have B_yy := Lib.hid hbare
  replace hS := hS.trans (hb.mono hS.size)
  replace hT := hT.below hb
  replace hA := hA.below hb
  replace h_xx := h_xx.below hb
  clear hb hv hbare
  go_wp2_with fail
  refine (cmp_b 0 _ _ _ _ _ _ _ _ _ h_xx h_yy (by omega) (by omega) (cmpZ_eq (by rw [H_xx.out, H_yy.out]))).mono ?_
  rintro e w4 ⟨rfl, hb⟩
  replace hS := hS.trans (hb.mono hS.size)
  replace hT := hT.below hb
  replace hA := hA.below hb
  replace h_xx := h_xx.below hb
  replace h_yy := h_yy.below hb
  clear hb
  cases bb <;> (go_wp2; go_ret; exact ⟨rfl, hS⟩)

set_option maxHeartbeats 8000000 in
set_option maxRecDepth 100000 in
theorem rhalves_fn (A : Option Addr) (n c : Nat) (xs : List Nat) (b : Nat) (k : Int) (hk : k < 0) (most : Nat) (hmost : most ≤ 9223372036854775807) (w : World) (hT : Tab w) (hA : Lim w A n c xs) (hn : n ≤ 10) (Hb : Hid (blen (val xs) = b)) (hb1 : 1 ≤ b) :
    Calls Tryd.prog 4 #[.slice A n c, .int .i64 k, .int .i64 (most : Int)] w fun e w' => e = .returned (.bool true) ∧ Below w.heap.size w w' := by
  have Hal := Lib.hid (ralive_any w hT)
  have hS : Below w.heap.size w w := Below.refl _ _
  have c1 : decide ((10 : Int) < (n : Int)) = false := by simp; omega
  have hbl : b ≤ 640 := by rw [← Hb.out]; have := hA.blen_le; omega
  have d1 : ((b : Int) == 0) = false := beq_eq_false_iff_ne.2 (by omega)
  have m1 : decide ((most : Int) < 0) = false := by simp
  go_enter Tryd.func4, Tryd.ntmps4
  go_wp2_with fail
  refine (Hal.out).mono ?_
  rintro e w1 ⟨rfl, hb⟩
  replace hS := hS.trans (hb.mono hS.size)
  replace hT := hT.below hb
  replace hA := hA.below hb
  clear hb
  go_wp2_with fail
  refine (halves_arg _ _ _ _ _ hk).mono ?_
  rintro e w' ⟨rfl, rfl⟩
  go_wp2_with fail
  refine (order_any most _ _ _ _ _ hA (by omega) hT hmost (by rw [Hb.out]; omega) (fun h => by have := Hb.out; rw [h, blen_zero] at this; omega)).mono ?_
  rintro e w2 ⟨o, rfl, ho, hox, hb⟩
  replace hS := hS.trans (hb.mono hS.size)
  replace hT := hT.below hb
  replace hA := hA.below hb
  have Ho := Lib.hid hox
  clear hb hox
  go_wp2_with fail
  refine (bits_v b _ _ _ _ _ hA (by omega) Hb).mono ?_
  rintro e w' ⟨rfl, rfl⟩
  go_wp2
  go_ret
  exact ⟨rfl, hS⟩

set_option maxHeartbeats 8000000 in
set_option maxRecDepth 100000 in
theorem rhalves_fb1 (A : Option Addr) (n c : Nat) (xs : List Nat) (b : Nat) (K : Nat) (hk : K ≤ 9223372036854775807) (hK : 10 < K) (most : Nat) (hmost : most ≤ 9223372036854775807) (w : World) (hT : Tab w) (hA : Lim w A n c xs) (hn : n ≤ 10) (Hb : Hid (blen (val xs) = b)) (hb1 : b = 1) :
    Calls Tryd.prog 4 #[.slice A n c, .int .i64 (K : Int), .int .i64 (most : Int)] w fun e w' => e = .returned (.bool true) ∧ Below w.heap.size w w' := by
  have Hal := Lib.hid (ralive_any w hT)
  have hS : Below w.heap.size w w := Below.refl _ _
  have c1 : decide ((10 : Int) < (n : Int)) = false := by simp; omega
  have hbl : b ≤ 640 := by rw [← Hb.out]; have := hA.blen_le; omega
  subst hb1
  have m1 : decide ((most : Int) < 0) = false := by simp
  have k1 : decide ((K : Int) < 0) = false := by simp
  have k2 : decide ((10 : Int) < (K : Int)) = true := by simp; omega
  obtain ⟨g1, g2⟩ := great_root (V := val xs) (K := K) (by rw [Hb.out]; omega) hK
  rw [blen_le_one, Hb.out] at g2
  have HE : Hid (decide (Ex (2 ^ K) (val xs)) = true) := decide_eq_true (g2.2 (by omega))
  have HR : Hid (rt (2 ^ K) (val xs) = 1) := by rw [g1, Hb.out]; show min _ 1 = _; omega
  clear g1 g2
  go_enter Tryd.func4, Tryd.ntmps4
  go_wp2_with fail
  refine (Hal.out).mono ?_
  rintro e w1 ⟨rfl, hb⟩
  replace hS := hS.trans (hb.mono hS.size)
  replace hT := hT.below hb
  replace hA := hA.below hb
  clear hb
  go_wp2_with fail
  refine (halves_any K true _ _ _ _ _ hA (by omega) hT (by omega) (by rw [Hb.out]; omega) HE).mono ?_
  rintro e w2 ⟨A_xx, m_xx, c_xx, xx, rfl, hm_xx, h_xx, hbare, hv, hb⟩
  have H_xx : Hid (val xx = 1) := by rw [hv, HR.out]; rfl
  have B_xx := Lib.hid hbare
  replace hS := hS.trans (hb.mono hS.size)
  replace hT := hT.below hb
  replace hA := hA.below hb
  clear hb hv hbare
  go_wp2_with fail
  refine (order_any most _ _ _ _ _ hA (by omega) hT hmost (by rw [Hb.out]; omega) (fun h => by have := Hb.out; rw [h, blen_zero] at this; omega)).mono ?_
  rintro e w3 ⟨o, rfl, ho, hox, hb⟩
  replace hS := hS.trans (hb.mono hS.size)
  replace hT := hT.below hb
  replace hA := hA.below hb
  replace h_xx := h_xx.below hb
  have Ho := Lib.hid hox
  clear hb hox
  go_wp2_with fail
  refine (bits_v 1 _ _ _ _ _ hA (by omega) Hb).mono ?_
  rintro e w' ⟨rfl, rfl⟩
  go_wp2_with fail
  refine (cmp_b 0 _ _ _ _ _ _ _ _ _ (h_xx.alloc _) (lim_new1 w3 33 1 1 rfl (by decide)) (by omega) (by decide) (cmpZ_eq (by rw [H_xx.out]; rfl))).mono ?_
  rintro e w4 ⟨rfl, hb⟩
  replace hb := below_new hb
  replace hS := hS.trans (hb.mono hS.size)
  replace hT := hT.below hb
  replace hA := hA.below hb
  replace h_xx := h_xx.below hb
  clear hb
  go_wp2
  go_ret
  exact ⟨rfl, hS⟩

set_option maxHeartbeats 8000000 in
set_option maxRecDepth 100000 in
theorem rhalves_fb2 (A : Option Addr) (n c : Nat) (xs : List Nat) (b : Nat) (K : Nat) (hk : K ≤ 9223372036854775807) (hK : 10 < K) (most : Nat) (hmost : most ≤ 9223372036854775807) (w : World) (hT : Tab w) (hA : Lim w A n c xs) (hn : n ≤ 10) (Hb : Hid (blen (val xs) = b)) (hb2 : 2 ≤ b) :
    Calls Tryd.prog 4 #[.slice A n c, .int .i64 (K : Int), .int .i64 (most : Int)] w fun e w' => e = .returned (.bool true) ∧ Below w.heap.size w w' := by
  have Hal := Lib.hid (ralive_any w hT)
  have hS : Below w.heap.size w w := Below.refl _ _
  have c1 : decide ((10 : Int) < (n : Int)) = false := by simp; omega
  have hbl : b ≤ 640 := by rw [← Hb.out]; have := hA.blen_le; omega
  have d1 : ((b : Int) == 0) = false := beq_eq_false_iff_ne.2 (by omega)
  have d2 : ((b : Int) == 1) = false := beq_eq_false_iff_ne.2 (by omega)
  have d3 : decide ((0 : Int) < (b : Int)) = true := by simp; omega
  have m1 : decide ((most : Int) < 0) = false := by simp
  have k1 : decide ((K : Int) < 0) = false := by simp
  have k2 : decide ((10 : Int) < (K : Int)) = true := by simp; omega
  obtain ⟨g1, g2⟩ := great_root (V := val xs) (K := K) (by rw [Hb.out]; omega) hK
  rw [blen_le_one, Hb.out] at g2
  have HE : Hid (decide (Ex (2 ^ K) (val xs)) = false) := decide_eq_false (fun h => by have := g2.1 h; omega)
  have HR : Hid (rt (2 ^ K) (val xs) = 1) := by rw [g1, Hb.out]; show min _ 1 = _; omega
  clear g1 g2
  go_enter Tryd.func4, Tryd.ntmps4
  go_wp2_with fail
  refine (Hal.out).mono ?_
  rintro e w1 ⟨rfl, hb⟩
  replace hS := hS.trans (hb.mono hS.size)
  replace hT := hT.below hb
  replace hA := hA.below hb
  clear hb
  go_wp2_with fail
  refine (halves_any K false _ _ _ _ _ hA (by omega) hT (by omega) (by rw [Hb.out]; omega) HE).mono ?_
  rintro e w2 ⟨A_xx, m_xx, c_xx, xx, rfl, hm_xx, h_xx, hbare, hv, hb⟩
  have H_xx : Hid (val xx = 1) := by rw [hv, HR.out]; rfl
  have B_xx := Lib.hid hbare
  replace hS := hS.trans (hb.mono hS.size)
  replace hT := hT.below hb
  replace hA := hA.below hb
  clear hb hv hbare
  go_wp2_with fail
  refine (order_any most _ _ _ _ _ hA (by omega) hT hmost (by rw [Hb.out]; omega) (fun h => by have := Hb.out; rw [h, blen_zero] at this; omega)).mono ?_
  rintro e w3 ⟨o, rfl, ho, hox, hb⟩
  replace hS := hS.trans (hb.mono hS.size)
  replace hT := hT.below hb
  replace hA := hA.below hb
  replace h_xx := h_xx.below hb
  have Ho := Lib.hid hox
  clear hb hox
  go_wp2_with fail
  refine (bits_v b _ _ _ _ _ hA (by omega) Hb).mono ?_
  rintro e w' ⟨rfl, rfl⟩
  go_wp2_with fail
  refine (cmp_b 0 _ _ _ _ _ _ _ _ _ (h_xx.alloc _) (lim_new1 w3 33 1 1 rfl (by decide)) (by omega) (by decide) (cmpZ_eq (by rw [H_xx.out]; rfl))).mono ?_
  rintro e w4 ⟨rfl, hb⟩
  replace hb := below_new hb
  replace hS := hS.trans (hb.mono hS.size)
  replace hT := hT.below hb
  replace hA := hA.below hb
  replace h_xx := h_xx.below hb
  clear hb
  go_wp2
  go_ret
  exact ⟨rfl, hS⟩

set_option maxHeartbeats 8000000 in
set_option maxRecDepth 100000 in
theorem rhalves_fs (A : Option Addr) (n c : Nat) (xs : List Nat) (b : Nat) (K : Nat) (hK : K ≤ 10) (most : Nat) (hmost : most ≤ 9223372036854775807) (w : World) (hT : Tab w) (hA : Lim w A n c xs) (hn : n ≤ 10) (Hb : Hid (blen (val xs) = b)) (hb1 : 1 ≤ b) :
    Calls Tryd.prog 4 #[.slice A n c, .int .i64 (K : Int), .int .i64 (most : Int)] w fun e w' => e = .returned (.bool true) ∧ Below w.heap.size w w' := by
  have Hal := Lib.hid (ralive_any w hT)
  have hS : Below w.heap.size w w := Below.refl _ _
  have c1 : decide ((10 : Int) < (n : Int)) = false := by simp; omega
  have hbl : b ≤ 640 := by rw [← Hb.out]; have := hA.blen_le; omega
  have d1 : ((b : Int) == 0) = false := beq_eq_false_iff_ne.2 (by omega)
  have m1 : decide ((most : Int) < 0) = false := by simp
  have k1 : decide ((K : Int) < 0) = false := by simp
  have k2 : decide ((10 : Int) < (K : Int)) = false := by simp; omega
  obtain ⟨z, hz⟩ : ∃ z, 2 ^ K = z := ⟨_, rfl⟩
  have hz1 : 1 ≤ z := by rw [← hz]; exact Nat.two_pow_pos K
  have hz2 : z ≤ 1024 := by rw [← hz]; exact Nat.le_trans (Nat.pow_le_pow_right (by decide) hK) (show (2 : Nat) ^ 10 ≤ 1024 by decide)
  have ez : (2 : Int) ^ K = (z : Int) := by rw [← hz]; exact (Int.natCast_pow 2 K).symm
  have Hz := Lib.hid hz
  obtain ⟨R, hR⟩ : ∃ R, rt (2 ^ K) (val xs) = R := ⟨_, rfl⟩
  have HR := Lib.hid hR
  have HR2 : Hid (rt z (val xs) = R) := by rw [← hz]; exact hR
  obtain ⟨bb, hbb⟩ : ∃ bb, decide (Ex (2 ^ K) (val xs)) = bb := ⟨_, rfl⟩
  have HE := Lib.hid hbb
  have HE2 : Hid (decide (Ex z (val xs)) = bb) := by rw [← hz]; exact hbb
  clear hz hR hbb
  go_enter Tryd.func4, Tryd.ntmps4
  go_wp2_with fail
  refine (Hal.out).mono ?_
  rintro e w1 ⟨rfl, hb⟩
  replace hS := hS.trans (hb.mono hS.size)
  replace hT := hT.below hb
  replace hA := hA.below hb
  clear hb
  go_wp2_with fail
  refine (halves_any K bb _ _ _ _ _ hA (by omega) hT (by omega) (by rw [Hb.out]; omega) HE).mono ?_
  rintro e w2 ⟨A_xx, m_xx, c_xx, xx, rfl, hm_xx, h_xx, hbare, hv, hb⟩
  have H_xx : Hid (val xx = R) := by rw [hv, HR.out]; rfl
  have B_xx := Lib.hid hbare
  replace hS := hS.trans (hb.mono hS.size)
  replace hT := hT.below hb
  replace hA := hA.below hb
  clear hb hv hbare
  go_wp2_with fail
  refine (order_any most _ _ _ _ _ hA (by omega) hT hmost (by rw [Hb.out]; omega) (fun h => by have := Hb.out; rw [h, blen_zero] at this; omega)).mono ?_
  rintro e w3 ⟨o, rfl, ho, hox, hb⟩
  replace hS := hS.trans (hb.mono hS.size)
  replace hT := hT.below hb
  replace hA := hA.below hb
  replace h_xx := h_xx.below hb
  have Ho := Lib.hid hox
  clear hb hox
  go_wp2_with fail
  refine (bits_v b _ _ _ _ _ hA (by omega) Hb).mono ?_
  rintro e w' ⟨rfl, rfl⟩
  go_wp2_with fail
  refine (root_any z bb _ _ _ _ _ hA (by omega) hT hz1 (by omega) (by rw [Hb.out]; omega) HE2).mono ?_
  rintro e w4 ⟨A_yy, m_yy, c_yy, yy, rfl, hm_yy, h_yy, hbare, hv, hb⟩
  have H_yy : Hid (val yy = R) := by rw [hv, HR2.out]; rfl
  have B_yy := Lib.hid hbare
  replace hS := hS.trans (hb.mono hS.size)
  replace hT := hT.below hb
  replace hA := hA.below hb
  replace h_xx := h_xx.below hb
  clear hb hv hbare
  go_wp2_with fail
  refine (cmp_b 0 _ _ _ _ _ _ _ _ _ h_xx h_yy (by omega) (by omega) (cmpZ_eq (by rw [H_xx.out, H_yy.out]))).mono ?_
  rintro e w5 ⟨rfl, hb⟩
  replace hS := hS.trans (hb.mono hS.size)
  replace hT := hT.below hb
  replace hA := hA.below hb
  replace h_xx := h_xx.below hb
  replace h_yy := h_yy.below hb
  clear hb
  by_cases hkm : most < K
  · have r1 : decide ((most : Int) < (K : Int)) = true := by simp; omega
    cases bb <;> (go_wp2; go_ret; exact ⟨rfl, hS⟩)
  · have r1 : decide ((most : Int) < (K : Int)) = false := by simp; omega
    have hko := Ho.out K (by omega)
    cases bb with
    | true =>
      have hle : K ≤ o := hko.2 (of_decide_eq_true HE.out)
      have r2 : decide ((K : Int) ≤ (o : Int)) = true := by simp; omega
      have r3 : decide (K ≤ o) = true := by simp; omega
      clear hko hle Ho
      go_wp2
      go_ret
      exact ⟨rfl, hS⟩
    | false =>
      have hle : ¬ K ≤ o := fun h => of_decide_eq_false HE.out (hko.1 h)
      have r2 : decide ((K : Int) ≤ (o : Int)) = false := by simp; omega
      have r3 : decide (K ≤ o) = false := by simp; omega
      clear hko hle Ho
      go_wp2
      go_ret
      exact ⟨rfl, hS⟩

theorem walk_rootHalves (A : Option Addr) (n c : Nat) (xs : List Nat) (k most : Int) (w : World) (hT : Tab w)
    (hA : Lim w A n c xs) (hn : n ≤ 9223372036854775807) (_hk0 : -9223372036854775808 ≤ k) (hk2 : k ≤ 9223372036854775807) (_hm0 : -9223372036854775808 ≤ most) (hm2 : most ≤ 9223372036854775807) :
    Calls Tryd.prog 4 #[.slice A n c, .int .i64 k, .int .i64 most] w fun e w' => e = .returned (.bool true) ∧ Below w.heap.size w w' := by
  by_cases h : 10 < n
  · exact rhalves_far A n c k most w hT hn h
  have hn' : n ≤ 10 := by omega
  obtain ⟨b, hb⟩ : ∃ b, blen (val xs) = b := ⟨_, rfl⟩
  have hbs : b = 0 ∨ b = 1 ∨ 2 ≤ b := by omega
  by_cases hm : most < 0
  · by_cases hk : k < 0
    · exact rhalves_nn A n c xs b k hk most hm w hT hA hn' hb
    · obtain ⟨K, rfl⟩ : ∃ K : Nat, k = (K : Int) := ⟨k.toNat, by omega⟩
      by_cases hK : K ≤ 10
      · exact rhalves_ns A n c xs b K hK most hm w hT hA hn' hb
      · rcases hbs with h0 | h0 | h0
        · exact rhalves_nb0 A n c xs b K (by omega) (by omega) most hm w hT hA hn' hb h0
        · exact rhalves_nb1 A n c xs b K (by omega) (by omega) most hm w hT hA hn' hb h0
        · exact rhalves_nb2 A n c xs b K (by omega) (by omega) most hm w hT hA hn' hb h0
  · obtain ⟨M, rfl⟩ : ∃ M : Nat, most = (M : Int) := ⟨most.toNat, by omega⟩
    by_cases hb0 : b = 0
    · by_cases hk : k < 0
      · exact rhalves_zn A n c xs b k hk M (by omega) w hT hA hn' hb hb0
      · obtain ⟨K, rfl⟩ : ∃ K : Nat, k = (K : Int) := ⟨k.toNat, by omega⟩
        by_cases hK : K ≤ 10
        · exact rhalves_zs A n c xs b K hK M (by omega) w hT hA hn' hb hb0
        · exact rhalves_zb A n c xs b K (by omega) (by omega) M (by omega) w hT hA hn' hb hb0
    · by_cases hk : k < 0
      · exact rhalves_fn A n c xs b k hk M (by omega) w hT hA hn' hb (by omega)
      · obtain ⟨K, rfl⟩ : ∃ K : Nat, k = (K : Int) := ⟨k.toNat, by omega⟩
        by_cases hK : K ≤ 10
        · exact rhalves_fs A n c xs b K hK M (by omega) w hT hA hn' hb (by omega)
        · by_cases h1 : b = 1
          · exact rhalves_fb1 A n c xs b K (by omega) (by omega) M (by omega) w hT hA hn' hb h1
          · exact rhalves_fb2 A n c xs b K (by omega) (by omega) M (by omega) w hT hA hn' hb (by omega)
end Go.Proofs.YtkgbgmhkbigjhaaDoor
