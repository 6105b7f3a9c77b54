/- The walk of the law RootFinds. (Written by law_rfinds.py.) -/
import Derived.Test.YtkgbgmhkbigjhaaDoorRAlive
import Derived.Test.YtkgbgmhkbigjhaaDoorRRef
namespace Go.Proofs.YtkgbgmhkbigjhaaDoor
open Go.RowKit

set_option maxHeartbeats 4000000 in
set_option maxRecDepth 100000 in
theorem rfinds_far (A : Option Addr) (n c : Nat) (k : Int) (w : World) (hT : Tab w)
    (hn : n ≤ 9223372036854775807) (hfar : (10 < n ∧ n < 125) ∨ 200 < n) :
    Calls Tryd.prog 3 #[.slice A n c, .int .i64 k] w fun e w' => e = .returned (.bool true) ∧ Below w.heap.size w w' := by
  have Hal := Lib.hid (ralive_any w hT)
  have b1 : decide ((10 : Int) < (n : Int)) = true := by simp; omega
  have g : decide ((n : Int) < (125 : Int)) = true ∨ (decide ((n : Int) < (125 : Int)) = false ∧ decide ((200 : Int) < (n : Int)) = true) := by
    by_cases h1 : n < 125
    · exact Or.inl (by simp; omega)
    · exact Or.inr ⟨by simp; omega, by simp; omega⟩
  clear hfar hT
  rcases g with b2 | ⟨b2, b3⟩
  all_goals
    go_enter Tryd.func3, Tryd.ntmps3
    go_wp2_with fail
    refine Hal.out.mono ?_
    rintro e w1 ⟨rfl, hb⟩
    go_wp2
    go_ret
    exact ⟨rfl, hb⟩

/-- What the length of a list of digits without leading noughts says. -/
theorem dlen_more {w : World} {A : Option Addr} {n c : Nat} {us : List Nat} {M : Nat} (hA : Dig w A n c us) (h : ¬ D.val us < D.pw M) : M < n := by
  rcases Nat.lt_or_ge M n with h1 | h1
  · exact h1
  · have h2 := D.val_lt hA.words
    rw [hA.len] at h2
    exact absurd (Nat.lt_of_lt_of_le h2 (D.pw_mono h1)) h
theorem dlen_less {w : World} {A : Option Addr} {n c : Nat} {us : List Nat} {M : Nat} (hA : Dig w A n c us) (hb : D.Bare us) (h : D.val us < D.pw M) : n ≤ M := by
  have := D.len_of_lt hb h
  rwa [hA.len] at this
theorem dlen_zero {w : World} {A : Option Addr} {n c : Nat} {us : List Nat} (hA : Dig w A n c us) (hb : D.Bare us) (h : D.val us = 0) : n = 0 := by
  have := D.tl_zero_iff.2 h
  rw [hb, hA.len] at this
  exact this
theorem dlen_pos {w : World} {A : Option Addr} {n c : Nat} {us : List Nat} (hA : Dig w A n c us) (h : D.val us ≠ 0) : n ≠ 0 := by
  intro h0
  have := hA.len
  rw [h0] at this
  rw [List.eq_nil_of_length_eq_zero this] at h
  exact h rfl
theorem lim_of_lists {V M : Nat} (h : V < D.pw M) : blen V ≤ 16 * M := blen_le_iff.2 (by rw [← D.pw_two]; exact h)
theorem one_lt_dpw {M : Nat} (hM : 1 ≤ M) : 1 < D.pw M := by rw [D.pw_two]; exact Nat.one_lt_two_pow (by omega)
/-- The exponent is small where the root is above 1. -/
theorem exp_small {V R k M : Nat} (hk : 1 ≤ k) (hR : rt k V = R) (h2 : 2 ≤ R) (hV : V < D.pw M) : k ≤ 16 * M := by
  have h1 := rt_le (a := V) hk
  rw [hR] at h1
  have h3 := Nat.pow_le_pow_left h2 k
  rw [D.pw_two] at hV
  rcases Nat.lt_or_ge (16 * M) k with h | h
  · have := Nat.pow_le_pow_right (n := 2) (by decide) (Nat.le_of_lt h)
    omega
  · exact h
/-- Bits of digits, a letter. -/
theorem rbits_v (v : Nat) (A : Option Addr) (n c : Nat) (ds : List Nat) (w : World) (h : Dig w A n c ds) (hb : D.Bare ds) (hn : n ≤ 1000000) (hv : Hid (blen (D.val ds) = v)) :
    Calls Tryd.prog 10 #[.slice A n c] w fun e w' => e = .returned (.int .i64 (v : Int)) ∧ w = w' := by
  rw [← hv.out]; exact rbits_any A n c ds w h hb hn

set_option maxHeartbeats 8000000 in
set_option maxRecDepth 100000 in
theorem rfinds_arg (A : Option Addr) (n c : Nat) (xs : List Nat) (V : Nat) (k : Int) (hk : k < 1) (w : World) (hT : Tab w) (hA : Lim w A n c xs) (_HV : Hid (val xs = V)) (hnn : n ≤ 10 ∨ (125 ≤ n ∧ n ≤ 200)) :
    Calls Tryd.prog 3 #[.slice A n c, .int .i64 k] w fun e w' => e = .returned (.bool true) ∧ Below w.heap.size w w' := by
  have Hal := Lib.hid (ralive_any w hT)
  have hS : Below w.heap.size w w := Below.refl _ _
  have hn : n ≤ 200 := by omega
  have g : decide ((10 : Int) < (n : Int)) = false ∧ decide ((200 : Int) < (n : Int)) = false ∨ (decide ((10 : Int) < (n : Int)) = true ∧ decide ((n : Int) < (125 : Int)) = false ∧ decide ((200 : Int) < (n : Int)) = false) := by
    rcases hnn with h1 | h1
    · exact Or.inl ⟨by simp; omega, by simp; omega⟩
    · exact Or.inr ⟨by simp; omega, by simp; omega, by simp; omega⟩
  clear hnn
  rcases g with ⟨b1, b3⟩ | ⟨b1, b2, b3⟩
  all_goals
    go_enter Tryd.func3, Tryd.ntmps3
    go_wp2_with fail
    refine (Hal.out).mono ?_
    rintro e w1 ⟨rfl, hb⟩
    replace hS := hS.trans (hb.mono hS.size)
    replace hT := hT.below hb
    replace hA := hA.below hb
    clear hb
    go_wp2_with fail
    refine (root_arg _ _ _ _ _ hk).mono ?_
    rintro e w' ⟨rfl, rfl⟩
    go_wp2
    go_ret
    exact ⟨rfl, hS⟩

set_option maxHeartbeats 8000000 in
set_option maxRecDepth 100000 in
theorem rfinds_long (A : Option Addr) (n c : Nat) (xs : List Nat) (V : Nat) (K : Nat) (hk1 : 1 ≤ K) (hk : K ≤ 9223372036854775807) (hl : 8192 < blen V) (w : World) (hT : Tab w) (hA : Lim w A n c xs) (HV : Hid (val xs = V)) (hnn : n ≤ 10 ∨ (125 ≤ n ∧ n ≤ 200)) :
    Calls Tryd.prog 3 #[.slice A n c, .int .i64 (K : Int)] w fun e w' => e = .returned (.bool true) ∧ Below w.heap.size w w' := by
  have Hal := Lib.hid (ralive_any w hT)
  have hS : Below w.heap.size w w := Below.refl _ _
  have hn : n ≤ 200 := by omega
  have g : decide ((10 : Int) < (n : Int)) = false ∧ decide ((200 : Int) < (n : Int)) = false ∨ (decide ((10 : Int) < (n : Int)) = true ∧ decide ((n : Int) < (125 : Int)) = false ∧ decide ((200 : Int) < (n : Int)) = false) := by
    rcases hnn with h1 | h1
    · exact Or.inl ⟨by simp; omega, by simp; omega⟩
    · exact Or.inr ⟨by simp; omega, by simp; omega, by simp; omega⟩
  clear hnn
  obtain ⟨b, hb⟩ : ∃ b, blen V = b := ⟨_, rfl⟩
  rw [hb] at hl
  have Hb := Lib.hid hb
  have t1 : decide ((8192 : Int) < (b : Int)) = true := by simp; omega
  have t2 : decide (8192 < b) = true := by simp; omega
  have Hl := Lib.hid hl
  clear hb hl
  rcases g with ⟨b1, b3⟩ | ⟨b1, b2, b3⟩
  all_goals
    go_enter Tryd.func3, Tryd.ntmps3
    go_wp2_with fail
    refine (Hal.out).mono ?_
    rintro e w1 ⟨rfl, hb⟩
    replace hS := hS.trans (hb.mono hS.size)
    replace hT := hT.below hb
    replace hA := hA.below hb
    clear hb
    go_wp2_with fail
    refine (root_long _ _ _ _ _ _ hA (by omega) (by omega) (by omega) (by rw [HV.out, Hb.out]; exact Hl.out)).mono ?_
    rintro e w' ⟨rfl, rfl⟩
    go_wp2_with fail
    refine (to_any _ _ _ _ _ hA (by omega)).mono ?_
    rintro e w2 ⟨A_dd, m_dd, c_dd, dd, rfl, hm_dd, h_dd, hbare, hv, hb⟩
    have H_dd : Hid (D.val dd = V) := by rw [hv, HV.out]; rfl
    have B_dd := Lib.hid hbare
    replace hS := hS.trans (hb.mono hS.size)
    replace hT := hT.below hb
    replace hA := hA.below hb
    clear hb hv hbare
    go_wp2_with fail
    refine (rbits_v b _ _ _ _ _ h_dd B_dd.out (by omega) (by rw [H_dd.out]; exact Hb)).mono ?_
    rintro e w' ⟨rfl, rfl⟩
    go_wp2
    go_ret
    exact ⟨rfl, hS⟩

set_option maxHeartbeats 8000000 in
set_option maxRecDepth 100000 in
theorem rfinds_wide (A : Option Addr) (n c : Nat) (xs : List Nat) (V : Nat) (K : Nat) (hk1 : 1 ≤ K) (hk : K ≤ 9223372036854775807) (hl : blen V ≤ 8192) (hw : ¬ V < D.pw 40) (w : World) (hT : Tab w) (hA : Lim w A n c xs) (HV : Hid (val xs = V)) (hnn : n ≤ 10 ∨ (125 ≤ n ∧ n ≤ 200)) :
    Calls Tryd.prog 3 #[.slice A n c, .int .i64 (K : Int)] w fun e w' => e = .returned (.bool true) ∧ Below w.heap.size w w' := by
  have Hal := Lib.hid (ralive_any w hT)
  have hS : Below w.heap.size w w := Below.refl _ _
  have hn : n ≤ 200 := by omega
  have g : decide ((10 : Int) < (n : Int)) = false ∧ decide ((200 : Int) < (n : Int)) = false ∨ (decide ((10 : Int) < (n : Int)) = true ∧ decide ((n : Int) < (125 : Int)) = false ∧ decide ((200 : Int) < (n : Int)) = false) := by
    rcases hnn with h1 | h1
    · exact Or.inl ⟨by simp; omega, by simp; omega⟩
    · exact Or.inr ⟨by simp; omega, by simp; omega, by simp; omega⟩
  clear hnn
  have Hw := Lib.hid hw
  clear hw
  obtain ⟨b, hb⟩ : ∃ b, blen V = b := ⟨_, rfl⟩
  have Hl := Lib.hid hl
  rw [hb] at hl
  have Hb := Lib.hid hb
  have t1 : decide ((8192 : Int) < (b : Int)) = false := by simp; omega
  have t2 : decide (8192 < b) = false := by simp; omega
  clear hb hl
  obtain ⟨R, hRe⟩ : ∃ R, rt K V = R := ⟨_, rfl⟩
  have HR := Lib.hid hRe
  obtain ⟨bb, hbb⟩ : ∃ bb, decide (Ex K V) = bb := ⟨_, rfl⟩
  have HE := Lib.hid hbb
  clear hbb hRe
  rcases g with ⟨b1, b3⟩ | ⟨b1, b2, b3⟩
  all_goals
    go_enter Tryd.func3, Tryd.ntmps3
    go_wp2_with fail
    refine (Hal.out).mono ?_
    rintro e w1 ⟨rfl, hb⟩
    replace hS := hS.trans (hb.mono hS.size)
    replace hT := hT.below hb
    replace hA := hA.below hb
    clear hb
    go_wp2_with fail
    refine (root_any K bb _ _ _ _ _ hA (by omega) hT hk1 hk (by rw [HV.out]; exact Hl.out) (by rw [HV.out]; exact HE)).mono ?_
    rintro e w2 ⟨A_xx, m_xx, c_xx, xx, rfl, hm_xx, h_xx, hbare, hv, hb⟩
    have H_xx : Hid (val xx = R) := by rw [hv, HV.out, HR.out]; rfl
    have B_xx := Lib.hid hbare
    replace hS := hS.trans (hb.mono hS.size)
    replace hT := hT.below hb
    replace hA := hA.below hb
    clear hb hv hbare
    go_wp2_with fail
    refine (to_any _ _ _ _ _ hA (by omega)).mono ?_
    rintro e w3 ⟨A_dd, m_dd, c_dd, dd, rfl, hm_dd, h_dd, hbare, hv, hb⟩
    have H_dd : Hid (D.val dd = V) := by rw [hv, HV.out]; rfl
    have B_dd := Lib.hid hbare
    replace hS := hS.trans (hb.mono hS.size)
    replace hT := hT.below hb
    replace hA := hA.below hb
    replace h_xx := h_xx.below hb
    clear hb hv hbare
    go_wp2_with fail
    refine (rbits_v b _ _ _ _ _ h_dd B_dd.out (by omega) (by rw [H_dd.out]; exact Hb)).mono ?_
    rintro e w' ⟨rfl, rfl⟩
    have hm40 : 40 < m_dd := dlen_more h_dd (by rw [H_dd.out]; exact Hw.out)
    have t3 : decide ((40 : Int) < (m_dd : Int)) = true := by simp; omega
    go_wp2
    go_ret
    exact ⟨rfl, hS⟩

set_option maxHeartbeats 8000000 in
set_option maxRecDepth 100000 in
theorem rfinds_zero (A : Option Addr) (n c : Nat) (xs : List Nat) (V : Nat) (K : Nat) (hk1 : 1 ≤ K) (hk : K ≤ 9223372036854775807) (h0 : V = 0) (w : World) (hT : Tab w) (hA : Lim w A n c xs) (HV : Hid (val xs = V)) (hnn : n ≤ 10 ∨ (125 ≤ n ∧ n ≤ 200)) :
    Calls Tryd.prog 3 #[.slice A n c, .int .i64 (K : Int)] w fun e w' => e = .returned (.bool true) ∧ Below w.heap.size w w' := by
  have Hal := Lib.hid (ralive_any w hT)
  have hS : Below w.heap.size w w := Below.refl _ _
  have hn : n ≤ 200 := by omega
  have g : decide ((10 : Int) < (n : Int)) = false ∧ decide ((200 : Int) < (n : Int)) = false ∨ (decide ((10 : Int) < (n : Int)) = true ∧ decide ((n : Int) < (125 : Int)) = false ∧ decide ((200 : Int) < (n : Int)) = false) := by
    rcases hnn with h1 | h1
    · exact Or.inl ⟨by simp; omega, by simp; omega⟩
    · exact Or.inr ⟨by simp; omega, by simp; omega, by simp; omega⟩
  clear hnn
  have Hw : Hid (V < D.pw 40) := by rw [h0]; exact D.pw_pos 40
  have hl : blen V ≤ 8192 := by have := lim_of_lists Hw.out; omega
  obtain ⟨b, hb⟩ : ∃ b, blen V = b := ⟨_, rfl⟩
  have Hl := Lib.hid hl
  rw [hb] at hl
  have Hb := Lib.hid hb
  have t1 : decide ((8192 : Int) < (b : Int)) = false := by simp; omega
  have t2 : decide (8192 < b) = false := by simp; omega
  clear hb hl
  have HR : Hid (rt K V = 0) := by rw [h0]; exact rt_zero hk1
  have HE : Hid (decide (Ex K V) = true) := decide_eq_true (by rw [h0]; exact (ex_small hk1 (by decide)).1)
  have HV0 := Lib.hid h0
  clear h0
  rcases g with ⟨b1, b3⟩ | ⟨b1, b2, b3⟩
  all_goals
    go_enter Tryd.func3, Tryd.ntmps3
    go_wp2_with fail
    refine (Hal.out).mono ?_
    rintro e w1 ⟨rfl, hb⟩
    replace hS := hS.trans (hb.mono hS.size)
    replace hT := hT.below hb
    replace hA := hA.below hb
    clear hb
    go_wp2_with fail
    refine (root_any K true _ _ _ _ _ hA (by omega) hT hk1 hk (by rw [HV.out]; exact Hl.out) (by rw [HV.out]; exact HE)).mono ?_
    rintro e w2 ⟨A_xx, m_xx, c_xx, xx, rfl, hm_xx, h_xx, hbare, hv, hb⟩
    have H_xx : Hid (val xx = 0) := by rw [hv, HV.out, HR.out]; rfl
    have B_xx := Lib.hid hbare
    replace hS := hS.trans (hb.mono hS.size)
    replace hT := hT.below hb
    replace hA := hA.below hb
    clear hb hv hbare
    go_wp2_with fail
    refine (to_any _ _ _ _ _ hA (by omega)).mono ?_
    rintro e w3 ⟨A_dd, m_dd, c_dd, dd, rfl, hm_dd, h_dd, hbare, hv, hb⟩
    have H_dd : Hid (D.val dd = V) := by rw [hv, HV.out]; rfl
    have B_dd := Lib.hid hbare
    replace hS := hS.trans (hb.mono hS.size)
    replace hT := hT.below hb
    replace hA := hA.below hb
    replace h_xx := h_xx.below hb
    clear hb hv hbare
    go_wp2_with fail
    refine (rbits_v b _ _ _ _ _ h_dd B_dd.out (by omega) (by rw [H_dd.out]; exact Hb)).mono ?_
    rintro e w' ⟨rfl, rfl⟩
    have hm40 : m_dd ≤ 40 := dlen_less h_dd B_dd.out (by rw [H_dd.out]; exact Hw.out)
    have t3 : decide ((40 : Int) < (m_dd : Int)) = false := by simp; omega
    obtain rfl : m_dd = 0 := dlen_zero h_dd B_dd.out (by rw [H_dd.out]; exact HV0.out)
    go_wp2_with fail
    refine (rroot_any K _ _ _ _ _ h_dd B_dd.out (by omega) hk1 hk).mono ?_
    rintro e w4 ⟨A_rr, m_rr, c_rr, rr, rfl, hm_rr, h_rr, hbare, hv, hb⟩
    have H_rr : Hid (D.val rr = 0) := by rw [hv, H_dd.out, HR.out]; rfl
    have B_rr := Lib.hid hbare
    replace hS := hS.trans (hb.mono hS.size)
    replace hT := hT.below hb
    replace hA := hA.below hb
    replace h_xx := h_xx.below hb
    replace h_dd := h_dd.below hb
    clear hb hv hbare
    go_wp2_with fail
    refine (same_any _ _ _ _ _ _ _ _ _ h_xx B_xx.out h_rr B_rr.out (by rw [H_xx.out, H_rr.out]) (by omega)).mono ?_
    rintro e w5 ⟨rfl, hb⟩
    replace hS := hS.trans (hb.mono hS.size)
    replace hT := hT.below hb
    replace hA := hA.below hb
    replace h_xx := h_xx.below hb
    replace h_dd := h_dd.below hb
    replace h_rr := h_rr.below hb
    clear hb
    go_wp2
    go_ret
    exact ⟨rfl, hS⟩

set_option maxHeartbeats 8000000 in
set_option maxRecDepth 100000 in
theorem rfinds_one1 (A : Option Addr) (n c : Nat) (xs : List Nat) (V : Nat) (K : Nat) (hk1 : 1 ≤ K) (hk : K ≤ 9223372036854775807) (hV1 : V = 1) (w : World) (hT : Tab w) (hA : Lim w A n c xs) (HV : Hid (val xs = V)) (hnn : n ≤ 10 ∨ (125 ≤ n ∧ n ≤ 200)) :
    Calls Tryd.prog 3 #[.slice A n c, .int .i64 (K : Int)] w fun e w' => e = .returned (.bool true) ∧ Below w.heap.size w w' := by
  have Hal := Lib.hid (ralive_any w hT)
  have hS : Below w.heap.size w w := Below.refl _ _
  have hn : n ≤ 200 := by omega
  have g : decide ((10 : Int) < (n : Int)) = false ∧ decide ((200 : Int) < (n : Int)) = false ∨ (decide ((10 : Int) < (n : Int)) = true ∧ decide ((n : Int) < (125 : Int)) = false ∧ decide ((200 : Int) < (n : Int)) = false) := by
    rcases hnn with h1 | h1
    · exact Or.inl ⟨by simp; omega, by simp; omega⟩
    · exact Or.inr ⟨by simp; omega, by simp; omega, by simp; omega⟩
  clear hnn
  have Hw : Hid (V < D.pw 40) := by rw [hV1]; exact one_lt_dpw (by decide)
  have hl : blen V ≤ 8192 := by have := lim_of_lists Hw.out; omega
  obtain ⟨b, hb⟩ : ∃ b, blen V = b := ⟨_, rfl⟩
  have Hl := Lib.hid hl
  rw [hb] at hl
  have Hb := Lib.hid hb
  have t1 : decide ((8192 : Int) < (b : Int)) = false := by simp; omega
  have t2 : decide (8192 < b) = false := by simp; omega
  clear hb hl
  have HR : Hid (rt K V = 1) := by rw [hV1]; exact rt_one hk1
  have HE : Hid (decide (Ex K V) = true) := decide_eq_true (by rw [hV1]; exact (ex_small hk1 (by decide)).1)
  have Hv : Hid (cmpZ V 1 = 0) := by rw [hV1]; exact cmpZ_eq rfl
  have HV0 : Hid (V ≠ 0) := fun h => by rw [hV1] at h; exact absurd h (by decide)
  clear hV1
  rcases g with ⟨b1, b3⟩ | ⟨b1, b2, b3⟩
  all_goals
    go_enter Tryd.func3, Tryd.ntmps3
    go_wp2_with fail
    refine (Hal.out).mono ?_
    rintro e w1 ⟨rfl, hb⟩
    replace hS := hS.trans (hb.mono hS.size)
    replace hT := hT.below hb
    replace hA := hA.below hb
    clear hb
    go_wp2_with fail
    refine (root_any K true _ _ _ _ _ hA (by omega) hT hk1 hk (by rw [HV.out]; exact Hl.out) (by rw [HV.out]; exact HE)).mono ?_
    rintro e w2 ⟨A_xx, m_xx, c_xx, xx, rfl, hm_xx, h_xx, hbare, hv, hb⟩
    have H_xx : Hid (val xx = 1) := by rw [hv, HV.out, HR.out]; rfl
    have B_xx := Lib.hid hbare
    replace hS := hS.trans (hb.mono hS.size)
    replace hT := hT.below hb
    replace hA := hA.below hb
    clear hb hv hbare
    go_wp2_with fail
    refine (to_any _ _ _ _ _ hA (by omega)).mono ?_
    rintro e w3 ⟨A_dd, m_dd, c_dd, dd, rfl, hm_dd, h_dd, hbare, hv, hb⟩
    have H_dd : Hid (D.val dd = V) := by rw [hv, HV.out]; rfl
    have B_dd := Lib.hid hbare
    replace hS := hS.trans (hb.mono hS.size)
    replace hT := hT.below hb
    replace hA := hA.below hb
    replace h_xx := h_xx.below hb
    clear hb hv hbare
    go_wp2_with fail
    refine (rbits_v b _ _ _ _ _ h_dd B_dd.out (by omega) (by rw [H_dd.out]; exact Hb)).mono ?_
    rintro e w' ⟨rfl, rfl⟩
    have hm40 : m_dd ≤ 40 := dlen_less h_dd B_dd.out (by rw [H_dd.out]; exact Hw.out)
    have t3 : decide ((40 : Int) < (m_dd : Int)) = false := by simp; omega
    have hm0 : m_dd ≠ 0 := dlen_pos h_dd (by rw [H_dd.out]; exact HV0.out)
    have t4 : ((m_dd : Int) == 0) = false := beq_eq_false_iff_ne.2 (by omega)
    have t6 : decide ((0 : Int) < (m_dd : Int)) = true := by simp; omega
    go_wp2_with fail
    refine (rroot_any K _ _ _ _ _ h_dd B_dd.out (by omega) hk1 hk).mono ?_
    rintro e w4 ⟨A_rr, m_rr, c_rr, rr, rfl, hm_rr, h_rr, hbare, hv, hb⟩
    have H_rr : Hid (D.val rr = 1) := by rw [hv, H_dd.out, HR.out]; rfl
    have B_rr := Lib.hid hbare
    replace hS := hS.trans (hb.mono hS.size)
    replace hT := hT.below hb
    replace hA := hA.below hb
    replace h_xx := h_xx.below hb
    replace h_dd := h_dd.below hb
    clear hb hv hbare
    go_wp2_with fail
    refine (num_any 1 (by decide) _).mono ?_
    rintro e w5 ⟨A_oo, m_oo, c_oo, oo, rfl, hm_oo, h_oo, hbare, hv, hb⟩
    have H_oo : Hid (D.val oo = 1) := by rw [hv]; rfl
    have B_oo := Lib.hid hbare
    replace hS := hS.trans (hb.mono hS.size)
    replace hT := hT.below hb
    replace hA := hA.below hb
    replace h_xx := h_xx.below hb
    replace h_dd := h_dd.below hb
    replace h_rr := h_rr.below hb
    clear hb hv hbare
    go_wp2_with fail
    refine (rcmp_v 0 _ _ _ _ _ _ _ _ _ h_rr h_oo B_rr.out B_oo.out (by omega) (by omega) (cmpZ_eq (by rw [H_rr.out, H_oo.out]))).mono ?_
    rintro e w6 ⟨rfl, hb⟩
    replace hS := hS.trans (hb.mono hS.size)
    replace hT := hT.below hb
    replace hA := hA.below hb
    replace h_xx := h_xx.below hb
    replace h_dd := h_dd.below hb
    replace h_rr := h_rr.below hb
    replace h_oo := h_oo.below hb
    clear hb
    go_wp2_with fail
    refine (rcmp_v 0 _ _ _ _ _ _ _ _ _ h_dd h_rr B_dd.out B_rr.out (by omega) (by omega) (by rw [H_dd.out, H_rr.out]; exact Hv)).mono ?_
    rintro e w7 ⟨rfl, hb⟩
    replace hS := hS.trans (hb.mono hS.size)
    replace hT := hT.below hb
    replace hA := hA.below hb
    replace h_xx := h_xx.below hb
    replace h_dd := h_dd.below hb
    replace h_rr := h_rr.below hb
    replace h_oo := h_oo.below hb
    clear hb
    go_wp2_with fail
    refine (rbits_v 1 _ _ _ _ _ h_rr B_rr.out (by omega) (by rw [H_rr.out]; exact rfl)).mono ?_
    rintro e w' ⟨rfl, rfl⟩
    go_wp2_with fail
    refine (same_any _ _ _ _ _ _ _ _ _ h_xx B_xx.out h_rr B_rr.out (by rw [H_xx.out, H_rr.out]) (by omega)).mono ?_
    rintro e w8 ⟨rfl, hb⟩
    replace hS := hS.trans (hb.mono hS.size)
    replace hT := hT.below hb
    replace hA := hA.below hb
    replace h_xx := h_xx.below hb
    replace h_dd := h_dd.below hb
    replace h_rr := h_rr.below hb
    replace h_oo := h_oo.below hb
    clear hb
    go_wp2
    go_ret
    exact ⟨rfl, hS⟩

set_option maxHeartbeats 8000000 in
set_option maxRecDepth 100000 in
theorem rfinds_one0 (A : Option Addr) (n c : Nat) (xs : List Nat) (V : Nat) (K : Nat) (hk1 : 1 ≤ K) (hk : K ≤ 9223372036854775807) (hw : V < D.pw 40) (hV2 : 2 ≤ V) (hR : rt K V = 1) (w : World) (hT : Tab w) (hA : Lim w A n c xs) (HV : Hid (val xs = V)) (hnn : n ≤ 10 ∨ (125 ≤ n ∧ n ≤ 200)) :
    Calls Tryd.prog 3 #[.slice A n c, .int .i64 (K : Int)] w fun e w' => e = .returned (.bool true) ∧ Below w.heap.size w w' := by
  have Hal := Lib.hid (ralive_any w hT)
  have hS : Below w.heap.size w w := Below.refl _ _
  have hn : n ≤ 200 := by omega
  have g : decide ((10 : Int) < (n : Int)) = false ∧ decide ((200 : Int) < (n : Int)) = false ∨ (decide ((10 : Int) < (n : Int)) = true ∧ decide ((n : Int) < (125 : Int)) = false ∧ decide ((200 : Int) < (n : Int)) = false) := by
    rcases hnn with h1 | h1
    · exact Or.inl ⟨by simp; omega, by simp; omega⟩
    · exact Or.inr ⟨by simp; omega, by simp; omega, by simp; omega⟩
  clear hnn
  have Hw := Lib.hid hw
  clear hw
  have hl : blen V ≤ 8192 := by have := lim_of_lists Hw.out; omega
  obtain ⟨b, hb⟩ : ∃ b, blen V = b := ⟨_, rfl⟩
  have Hl := Lib.hid hl
  rw [hb] at hl
  have Hb := Lib.hid hb
  have t1 : decide ((8192 : Int) < (b : Int)) = false := by simp; omega
  have t2 : decide (8192 < b) = false := by simp; omega
  clear hb hl
  have HR := Lib.hid hR
  have HE : Hid (decide (Ex K V) = false) := decide_eq_false (by rw [Ex, hR, Nat.one_pow]; omega)
  have Hv : Hid (cmpZ V 1 = 1) := cmpZ_gt (by omega)
  have HV0 : Hid (V ≠ 0) := by show V ≠ 0; omega
  clear hV2 hR
  rcases g with ⟨b1, b3⟩ | ⟨b1, b2, b3⟩
  all_goals
    go_enter Tryd.func3, Tryd.ntmps3
    go_wp2_with fail
    refine (Hal.out).mono ?_
    rintro e w1 ⟨rfl, hb⟩
    replace hS := hS.trans (hb.mono hS.size)
    replace hT := hT.below hb
    replace hA := hA.below hb
    clear hb
    go_wp2_with fail
    refine (root_any K false _ _ _ _ _ hA (by omega) hT hk1 hk (by rw [HV.out]; exact Hl.out) (by rw [HV.out]; exact HE)).mono ?_
    rintro e w2 ⟨A_xx, m_xx, c_xx, xx, rfl, hm_xx, h_xx, hbare, hv, hb⟩
    have H_xx : Hid (val xx = 1) := by rw [hv, HV.out, HR.out]; rfl
    have B_xx := Lib.hid hbare
    replace hS := hS.trans (hb.mono hS.size)
    replace hT := hT.below hb
    replace hA := hA.below hb
    clear hb hv hbare
    go_wp2_with fail
    refine (to_any _ _ _ _ _ hA (by omega)).mono ?_
    rintro e w3 ⟨A_dd, m_dd, c_dd, dd, rfl, hm_dd, h_dd, hbare, hv, hb⟩
    have H_dd : Hid (D.val dd = V) := by rw [hv, HV.out]; rfl
    have B_dd := Lib.hid hbare
    replace hS := hS.trans (hb.mono hS.size)
    replace hT := hT.below hb
    replace hA := hA.below hb
    replace h_xx := h_xx.below hb
    clear hb hv hbare
    go_wp2_with fail
    refine (rbits_v b _ _ _ _ _ h_dd B_dd.out (by omega) (by rw [H_dd.out]; exact Hb)).mono ?_
    rintro e w' ⟨rfl, rfl⟩
    have hm40 : m_dd ≤ 40 := dlen_less h_dd B_dd.out (by rw [H_dd.out]; exact Hw.out)
    have t3 : decide ((40 : Int) < (m_dd : Int)) = false := by simp; omega
    have hm0 : m_dd ≠ 0 := dlen_pos h_dd (by rw [H_dd.out]; exact HV0.out)
    have t4 : ((m_dd : Int) == 0) = false := beq_eq_false_iff_ne.2 (by omega)
    have t6 : decide ((0 : Int) < (m_dd : Int)) = true := by simp; omega
    go_wp2_with fail
    refine (rroot_any K _ _ _ _ _ h_dd B_dd.out (by omega) hk1 hk).mono ?_
    rintro e w4 ⟨A_rr, m_rr, c_rr, rr, rfl, hm_rr, h_rr, hbare, hv, hb⟩
    have H_rr : Hid (D.val rr = 1) := by rw [hv, H_dd.out, HR.out]; rfl
    have B_rr := Lib.hid hbare
    replace hS := hS.trans (hb.mono hS.size)
    replace hT := hT.below hb
    replace hA := hA.below hb
    replace h_xx := h_xx.below hb
    replace h_dd := h_dd.below hb
    clear hb hv hbare
    go_wp2_with fail
    refine (num_any 1 (by decide) _).mono ?_
    rintro e w5 ⟨A_oo, m_oo, c_oo, oo, rfl, hm_oo, h_oo, hbare, hv, hb⟩
    have H_oo : Hid (D.val oo = 1) := by rw [hv]; rfl
    have B_oo := Lib.hid hbare
    replace hS := hS.trans (hb.mono hS.size)
    replace hT := hT.below hb
    replace hA := hA.below hb
    replace h_xx := h_xx.below hb
    replace h_dd := h_dd.below hb
    replace h_rr := h_rr.below hb
    clear hb hv hbare
    go_wp2_with fail
    refine (rcmp_v 0 _ _ _ _ _ _ _ _ _ h_rr h_oo B_rr.out B_oo.out (by omega) (by omega) (cmpZ_eq (by rw [H_rr.out, H_oo.out]))).mono ?_
    rintro e w6 ⟨rfl, hb⟩
    replace hS := hS.trans (hb.mono hS.size)
    replace hT := hT.below hb
    replace hA := hA.below hb
    replace h_xx := h_xx.below hb
    replace h_dd := h_dd.below hb
    replace h_rr := h_rr.below hb
    replace h_oo := h_oo.below hb
    clear hb
    go_wp2_with fail
    refine (rcmp_v 1 _ _ _ _ _ _ _ _ _ h_dd h_rr B_dd.out B_rr.out (by omega) (by omega) (by rw [H_dd.out, H_rr.out]; exact Hv)).mono ?_
    rintro e w7 ⟨rfl, hb⟩
    replace hS := hS.trans (hb.mono hS.size)
    replace hT := hT.below hb
    replace hA := hA.below hb
    replace h_xx := h_xx.below hb
    replace h_dd := h_dd.below hb
    replace h_rr := h_rr.below hb
    replace h_oo := h_oo.below hb
    clear hb
    go_wp2_with fail
    refine (rbits_v 1 _ _ _ _ _ h_rr B_rr.out (by omega) (by rw [H_rr.out]; exact rfl)).mono ?_
    rintro e w' ⟨rfl, rfl⟩
    go_wp2_with fail
    refine (same_any _ _ _ _ _ _ _ _ _ h_xx B_xx.out h_rr B_rr.out (by rw [H_xx.out, H_rr.out]) (by omega)).mono ?_
    rintro e w8 ⟨rfl, hb⟩
    replace hS := hS.trans (hb.mono hS.size)
    replace hT := hT.below hb
    replace hA := hA.below hb
    replace h_xx := h_xx.below hb
    replace h_dd := h_dd.below hb
    replace h_rr := h_rr.below hb
    replace h_oo := h_oo.below hb
    clear hb
    go_wp2
    go_ret
    exact ⟨rfl, hS⟩

set_option maxHeartbeats 8000000 in
set_option maxRecDepth 100000 in
theorem rfinds_ex (A : Option Addr) (n c : Nat) (xs : List Nat) (V : Nat) (K : Nat) (hk1 : 1 ≤ K) (hk : K ≤ 9223372036854775807) (hw : V < D.pw 40) (hR2 : 2 ≤ rt K V) (hE : Ex K V) (w : World) (hT : Tab w) (hA : Lim w A n c xs) (HV : Hid (val xs = V)) (hnn : n ≤ 10 ∨ (125 ≤ n ∧ n ≤ 200)) :
    Calls Tryd.prog 3 #[.slice A n c, .int .i64 (K : Int)] w fun e w' => e = .returned (.bool true) ∧ Below w.heap.size w w' := by
  have Hal := Lib.hid (ralive_any w hT)
  have hS : Below w.heap.size w w := Below.refl _ _
  have hn : n ≤ 200 := by omega
  have g : decide ((10 : Int) < (n : Int)) = false ∧ decide ((200 : Int) < (n : Int)) = false ∨ (decide ((10 : Int) < (n : Int)) = true ∧ decide ((n : Int) < (125 : Int)) = false ∧ decide ((200 : Int) < (n : Int)) = false) := by
    rcases hnn with h1 | h1
    · exact Or.inl ⟨by simp; omega, by simp; omega⟩
    · exact Or.inr ⟨by simp; omega, by simp; omega, by simp; omega⟩
  clear hnn
  have Hw := Lib.hid hw
  clear hw
  have hl : blen V ≤ 8192 := by have := lim_of_lists Hw.out; omega
  obtain ⟨b, hb⟩ : ∃ b, blen V = b := ⟨_, rfl⟩
  have Hl := Lib.hid hl
  rw [hb] at hl
  have Hb := Lib.hid hb
  have t1 : decide ((8192 : Int) < (b : Int)) = false := by simp; omega
  have t2 : decide (8192 < b) = false := by simp; omega
  clear hb hl
  obtain ⟨R, hRe⟩ : ∃ R, rt K V = R := ⟨_, rfl⟩
  have HR := Lib.hid hRe
  rw [hRe] at hR2
  have hk640 := exp_small hk1 hRe hR2 Hw.out
  have HV0 : Hid (V ≠ 0) := fun h => by have := rt_self_le (a := V) hk1; omega
  have HRk : Hid (R ^ K < D.pw 40) := Nat.lt_of_le_of_lt (by rw [← hRe]; exact rt_le hk1) Hw.out
  obtain ⟨br, hbr⟩ : ∃ br, blen R = br := ⟨_, rfl⟩
  have hbr2 : 1 < br := by
    rcases Nat.lt_or_ge 1 br with h | h
    · exact h
    · have := blen_le_iff.1 (show blen R ≤ 1 by omega)
      omega
  have Hbr := Lib.hid hbr
  have t5 : decide ((1 : Int) < (br : Int)) = true := by simp; omega
  have HR2 := Lib.hid hR2
  clear hbr
  have HE : Hid (decide (Ex K V) = true) := decide_eq_true hE
  have Hv : Hid (cmpZ (R ^ K) V = 0) := by rw [← hRe]; exact cmpZ_eq hE
  clear hE hRe
  rcases g with ⟨b1, b3⟩ | ⟨b1, b2, b3⟩
  all_goals
    go_enter Tryd.func3, Tryd.ntmps3
    go_wp2_with fail
    refine (Hal.out).mono ?_
    rintro e w1 ⟨rfl, hb⟩
    replace hS := hS.trans (hb.mono hS.size)
    replace hT := hT.below hb
    replace hA := hA.below hb
    clear hb
    go_wp2_with fail
    refine (root_any K true _ _ _ _ _ hA (by omega) hT hk1 hk (by rw [HV.out]; exact Hl.out) (by rw [HV.out]; exact HE)).mono ?_
    rintro e w2 ⟨A_xx, m_xx, c_xx, xx, rfl, hm_xx, h_xx, hbare, hv, hb⟩
    have H_xx : Hid (val xx = R) := by rw [hv, HV.out, HR.out]; rfl
    have B_xx := Lib.hid hbare
    replace hS := hS.trans (hb.mono hS.size)
    replace hT := hT.below hb
    replace hA := hA.below hb
    clear hb hv hbare
    go_wp2_with fail
    refine (to_any _ _ _ _ _ hA (by omega)).mono ?_
    rintro e w3 ⟨A_dd, m_dd, c_dd, dd, rfl, hm_dd, h_dd, hbare, hv, hb⟩
    have H_dd : Hid (D.val dd = V) := by rw [hv, HV.out]; rfl
    have B_dd := Lib.hid hbare
    replace hS := hS.trans (hb.mono hS.size)
    replace hT := hT.below hb
    replace hA := hA.below hb
    replace h_xx := h_xx.below hb
    clear hb hv hbare
    go_wp2_with fail
    refine (rbits_v b _ _ _ _ _ h_dd B_dd.out (by omega) (by rw [H_dd.out]; exact Hb)).mono ?_
    rintro e w' ⟨rfl, rfl⟩
    have hm40 : m_dd ≤ 40 := dlen_less h_dd B_dd.out (by rw [H_dd.out]; exact Hw.out)
    have t3 : decide ((40 : Int) < (m_dd : Int)) = false := by simp; omega
    have hm0 : m_dd ≠ 0 := dlen_pos h_dd (by rw [H_dd.out]; exact HV0.out)
    have t4 : ((m_dd : Int) == 0) = false := beq_eq_false_iff_ne.2 (by omega)
    have t6 : decide ((0 : Int) < (m_dd : Int)) = true := by simp; omega
    go_wp2_with fail
    refine (rroot_any K _ _ _ _ _ h_dd B_dd.out (by omega) hk1 hk).mono ?_
    rintro e w4 ⟨A_rr, m_rr, c_rr, rr, rfl, hm_rr, h_rr, hbare, hv, hb⟩
    have H_rr : Hid (D.val rr = R) := by rw [hv, H_dd.out, HR.out]; rfl
    have B_rr := Lib.hid hbare
    replace hS := hS.trans (hb.mono hS.size)
    replace hT := hT.below hb
    replace hA := hA.below hb
    replace h_xx := h_xx.below hb
    replace h_dd := h_dd.below hb
    clear hb hv hbare
    go_wp2_with fail
    refine (num_any 1 (by decide) _).mono ?_
    rintro e w5 ⟨A_oo, m_oo, c_oo, oo, rfl, hm_oo, h_oo, hbare, hv, hb⟩
    have H_oo : Hid (D.val oo = 1) := by rw [hv]; rfl
    have B_oo := Lib.hid hbare
    replace hS := hS.trans (hb.mono hS.size)
    replace hT := hT.below hb
    replace hA := hA.below hb
    replace h_xx := h_xx.below hb
    replace h_dd := h_dd.below hb
    replace h_rr := h_rr.below hb
    clear hb hv hbare
    go_wp2_with fail
    refine (rcmp_v 1 _ _ _ _ _ _ _ _ _ h_rr h_oo B_rr.out B_oo.out (by omega) (by omega) (cmpZ_gt (by rw [H_rr.out, H_oo.out]; exact HR2.out))).mono ?_
    rintro e w6 ⟨rfl, hb⟩
    replace hS := hS.trans (hb.mono hS.size)
    replace hT := hT.below hb
    replace hA := hA.below hb
    replace h_xx := h_xx.below hb
    replace h_dd := h_dd.below hb
    replace h_rr := h_rr.below hb
    replace h_oo := h_oo.below hb
    clear hb
    go_wp2_with fail
    refine (rbits_v br _ _ _ _ _ h_rr B_rr.out (by omega) (by rw [H_rr.out]; exact Hbr)).mono ?_
    rintro e w' ⟨rfl, rfl⟩
    go_wp2_with fail
    refine (rpow_any 40 _ _ _ _ K _ h_rr (by rw [H_rr.out]; have := HR2.out; omega) (by omega) (by omega) (by decide) (by decide) (by rw [H_rr.out]; exact HRk.out)).mono ?_
    rintro e w7 ⟨A_pp, m_pp, c_pp, pp, rfl, hm_pp, h_pp, hbare, hv, hb⟩
    have H_pp : Hid (D.val pp = R ^ K) := by rw [hv, H_rr.out]; rfl
    have B_pp := Lib.hid hbare
    replace hS := hS.trans (hb.mono hS.size)
    replace hT := hT.below hb
    replace hA := hA.below hb
    replace h_xx := h_xx.below hb
    replace h_dd := h_dd.below hb
    replace h_rr := h_rr.below hb
    replace h_oo := h_oo.below hb
    clear hb hv hbare
    go_wp2_with fail
    refine (rcmp_v 0 _ _ _ _ _ _ _ _ _ h_pp h_dd B_pp.out B_dd.out (by omega) (by omega) (by rw [H_pp.out, H_dd.out]; exact Hv)).mono ?_
    rintro e w8 ⟨rfl, hb⟩
    replace hS := hS.trans (hb.mono hS.size)
    replace hT := hT.below hb
    replace hA := hA.below hb
    replace h_xx := h_xx.below hb
    replace h_dd := h_dd.below hb
    replace h_rr := h_rr.below hb
    replace h_oo := h_oo.below hb
    replace h_pp := h_pp.below hb
    clear hb
    go_wp2_with fail
    refine (same_any _ _ _ _ _ _ _ _ _ h_xx B_xx.out h_rr B_rr.out (by rw [H_xx.out, H_rr.out]) (by omega)).mono ?_
    rintro e w9 ⟨rfl, hb⟩
    replace hS := hS.trans (hb.mono hS.size)
    replace hT := hT.below hb
    replace hA := hA.below hb
    replace h_xx := h_xx.below hb
    replace h_dd := h_dd.below hb
    replace h_rr := h_rr.below hb
    replace h_oo := h_oo.below hb
    replace h_pp := h_pp.below hb
    clear hb
    go_wp2
    go_ret
    exact ⟨rfl, hS⟩

set_option maxHeartbeats 8000000 in
set_option maxRecDepth 100000 in
theorem rfinds_no (A : Option Addr) (n c : Nat) (xs : List Nat) (V : Nat) (K : Nat) (hk1 : 1 ≤ K) (hk : K ≤ 9223372036854775807) (hw : V < D.pw 40) (hR2 : 2 ≤ rt K V) (hE : ¬ Ex K V) (w : World) (hT : Tab w) (hA : Lim w A n c xs) (HV : Hid (val xs = V)) (hnn : n ≤ 10 ∨ (125 ≤ n ∧ n ≤ 200)) :
    Calls Tryd.prog 3 #[.slice A n c, .int .i64 (K : Int)] w fun e w' => e = .returned (.bool true) ∧ Below w.heap.size w w' := by
  have Hal := Lib.hid (ralive_any w hT)
  have hS : Below w.heap.size w w := Below.refl _ _
  have hn : n ≤ 200 := by omega
  have g : decide ((10 : Int) < (n : Int)) = false ∧ decide ((200 : Int) < (n : Int)) = false ∨ (decide ((10 : Int) < (n : Int)) = true ∧ decide ((n : Int) < (125 : Int)) = false ∧ decide ((200 : Int) < (n : Int)) = false) := by
    rcases hnn with h1 | h1
    · exact Or.inl ⟨by simp; omega, by simp; omega⟩
    · exact Or.inr ⟨by simp; omega, by simp; omega, by simp; omega⟩
  clear hnn
  have Hw := Lib.hid hw
  clear hw
  have hl : blen V ≤ 8192 := by have := lim_of_lists Hw.out; omega
  obtain ⟨b, hb⟩ : ∃ b, blen V = b := ⟨_, rfl⟩
  have Hl := Lib.hid hl
  rw [hb] at hl
  have Hb := Lib.hid hb
  have t1 : decide ((8192 : Int) < (b : Int)) = false := by simp; omega
  have t2 : decide (8192 < b) = false := by simp; omega
  clear hb hl
  obtain ⟨R, hRe⟩ : ∃ R, rt K V = R := ⟨_, rfl⟩
  have HR := Lib.hid hRe
  rw [hRe] at hR2
  have hk640 := exp_small hk1 hRe hR2 Hw.out
  have HV0 : Hid (V ≠ 0) := fun h => by have := rt_self_le (a := V) hk1; omega
  have HRk : Hid (R ^ K < D.pw 40) := Nat.lt_of_le_of_lt (by rw [← hRe]; exact rt_le hk1) Hw.out
  obtain ⟨br, hbr⟩ : ∃ br, blen R = br := ⟨_, rfl⟩
  have hbr2 : 1 < br := by
    rcases Nat.lt_or_ge 1 br with h | h
    · exact h
    · have := blen_le_iff.1 (show blen R ≤ 1 by omega)
      omega
  have Hbr := Lib.hid hbr
  have t5 : decide ((1 : Int) < (br : Int)) = true := by simp; omega
  have HR2 := Lib.hid hR2
  clear hbr
  have HE : Hid (decide (Ex K V) = false) := decide_eq_false hE
  have Hv : Hid (cmpZ (R ^ K) V = -1) := by
    have h1 := rt_le (a := V) hk1
    have h2 : rt K V ^ K ≠ V := hE
    rw [← hRe]; exact cmpZ_lt (by omega)
  clear hE hRe
  rcases g with ⟨b1, b3⟩ | ⟨b1, b2, b3⟩
  all_goals
    go_enter Tryd.func3, Tryd.ntmps3
    go_wp2_with fail
    refine (Hal.out).mono ?_
    rintro e w1 ⟨rfl, hb⟩
    replace hS := hS.trans (hb.mono hS.size)
    replace hT := hT.below hb
    replace hA := hA.below hb
    clear hb
    go_wp2_with fail
    refine (root_any K false _ _ _ _ _ hA (by omega) hT hk1 hk (by rw [HV.out]; exact Hl.out) (by rw [HV.out]; exact HE)).mono ?_
    rintro e w2 ⟨A_xx, m_xx, c_xx, xx, rfl, hm_xx, h_xx, hbare, hv, hb⟩
    have H_xx : Hid (val xx = R) := by rw [hv, HV.out, HR.out]; rfl
    have B_xx := Lib.hid hbare
    replace hS := hS.trans (hb.mono hS.size)
    replace hT := hT.below hb
    replace hA := hA.below hb
    clear hb hv hbare
    go_wp2_with fail
    refine (to_any _ _ _ _ _ hA (by omega)).mono ?_
    rintro e w3 ⟨A_dd, m_dd, c_dd, dd, rfl, hm_dd, h_dd, hbare, hv, hb⟩
    have H_dd : Hid (D.val dd = V) := by rw [hv, HV.out]; rfl
    have B_dd := Lib.hid hbare
    replace hS := hS.trans (hb.mono hS.size)
    replace hT := hT.below hb
    replace hA := hA.below hb
    replace h_xx := h_xx.below hb
    clear hb hv hbare
    go_wp2_with fail
    refine (rbits_v b _ _ _ _ _ h_dd B_dd.out (by omega) (by rw [H_dd.out]; exact Hb)).mono ?_
    rintro e w' ⟨rfl, rfl⟩
    have hm40 : m_dd ≤ 40 := dlen_less h_dd B_dd.out (by rw [H_dd.out]; exact Hw.out)
    have t3 : decide ((40 : Int) < (m_dd : Int)) = false := by simp; omega
    have hm0 : m_dd ≠ 0 := dlen_pos h_dd (by rw [H_dd.out]; exact HV0.out)
    have t4 : ((m_dd : Int) == 0) = false := beq_eq_false_iff_ne.2 (by omega)
    have t6 : decide ((0 : Int) < (m_dd : Int)) = true := by simp; omega
    go_wp2_with fail
    refine (rroot_any K _ _ _ _ _ h_dd B_dd.out (by omega) hk1 hk).mono ?_
    rintro e w4 ⟨A_rr, m_rr, c_rr, rr, rfl, hm_rr, h_rr, hbare, hv, hb⟩
    have H_rr : Hid (D.val rr = R) := by rw [hv, H_dd.out, HR.out]; rfl
    have B_rr := Lib.hid hbare
    replace hS := hS.trans (hb.mono hS.size)
    replace hT := hT.below hb
    replace hA := hA.below hb
    replace h_xx := h_xx.below hb
    replace h_dd := h_dd.below hb
    clear hb hv hbare
    go_wp2_with fail
    refine (num_any 1 (by decide) _).mono ?_
    rintro e w5 ⟨A_oo, m_oo, c_oo, oo, rfl, hm_oo, h_oo, hbare, hv, hb⟩
    have H_oo : Hid (D.val oo = 1) := by rw [hv]; rfl
    have B_oo := Lib.hid hbare
    replace hS := hS.trans (hb.mono hS.size)
    replace hT := hT.below hb
    replace hA := hA.below hb
    replace h_xx := h_xx.below hb
    replace h_dd := h_dd.below hb
    replace h_rr := h_rr.below hb
    clear hb hv hbare
    go_wp2_with fail
    refine (rcmp_v 1 _ _ _ _ _ _ _ _ _ h_rr h_oo B_rr.out B_oo.out (by omega) (by omega) (cmpZ_gt (by rw [H_rr.out, H_oo.out]; exact HR2.out))).mono ?_
    rintro e w6 ⟨rfl, hb⟩
    replace hS := hS.trans (hb.mono hS.size)
    replace hT := hT.below hb
    replace hA := hA.below hb
    replace h_xx := h_xx.below hb
    replace h_dd := h_dd.below hb
    replace h_rr := h_rr.below hb
    replace h_oo := h_oo.below hb
    clear hb
    go_wp2_with fail
    refine (rbits_v br _ _ _ _ _ h_rr B_rr.out (by omega) (by rw [H_rr.out]; exact Hbr)).mono ?_
    rintro e w' ⟨rfl, rfl⟩
    go_wp2_with fail
    refine (rpow_any 40 _ _ _ _ K _ h_rr (by rw [H_rr.out]; have := HR2.out; omega) (by omega) (by omega) (by decide) (by decide) (by rw [H_rr.out]; exact HRk.out)).mono ?_
    rintro e w7 ⟨A_pp, m_pp, c_pp, pp, rfl, hm_pp, h_pp, hbare, hv, hb⟩
    have H_pp : Hid (D.val pp = R ^ K) := by rw [hv, H_rr.out]; rfl
    have B_pp := Lib.hid hbare
    replace hS := hS.trans (hb.mono hS.size)
    replace hT := hT.below hb
    replace hA := hA.below hb
    replace h_xx := h_xx.below hb
    replace h_dd := h_dd.below hb
    replace h_rr := h_rr.below hb
    replace h_oo := h_oo.below hb
    clear hb hv hbare
    go_wp2_with fail
    refine (rcmp_v (-1) _ _ _ _ _ _ _ _ _ h_pp h_dd B_pp.out B_dd.out (by omega) (by omega) (by rw [H_pp.out, H_dd.out]; exact Hv)).mono ?_
    rintro e w8 ⟨rfl, hb⟩
    replace hS := hS.trans (hb.mono hS.size)
    replace hT := hT.below hb
    replace hA := hA.below hb
    replace h_xx := h_xx.below hb
    replace h_dd := h_dd.below hb
    replace h_rr := h_rr.below hb
    replace h_oo := h_oo.below hb
    replace h_pp := h_pp.below hb
    clear hb
    go_wp2_with fail
    refine (same_any _ _ _ _ _ _ _ _ _ h_xx B_xx.out h_rr B_rr.out (by rw [H_xx.out, H_rr.out]) (by omega)).mono ?_
    rintro e w9 ⟨rfl, hb⟩
    replace hS := hS.trans (hb.mono hS.size)
    replace hT := hT.below hb
    replace hA := hA.below hb
    replace h_xx := h_xx.below hb
    replace h_dd := h_dd.below hb
    replace h_rr := h_rr.below hb
    replace h_oo := h_oo.below hb
    replace h_pp := h_pp.below hb
    clear hb
    go_wp2
    go_ret
    exact ⟨rfl, hS⟩

theorem walk_rootFinds (A : Option Addr) (n c : Nat) (xs : List Nat) (k : Int) (w : World) (hT : Tab w)
    (hA : Lim w A n c xs) (hn : n ≤ 9223372036854775807) (_hk0 : -9223372036854775808 ≤ k) (hk2 : k ≤ 9223372036854775807) :
    Calls Tryd.prog 3 #[.slice A n c, .int .i64 k] w fun e w' => e = .returned (.bool true) ∧ Below w.heap.size w w' := by
  by_cases h : (10 < n ∧ n < 125) ∨ 200 < n
  · exact rfinds_far A n c k w hT hn h
  have hn' : n ≤ 10 ∨ (125 ≤ n ∧ n ≤ 200) := by omega
  obtain ⟨V, hV⟩ : ∃ V, val xs = V := ⟨_, rfl⟩
  by_cases hk : k < 1
  · exact rfinds_arg A n c xs V k hk w hT hA hV hn'
  obtain ⟨K, rfl⟩ : ∃ K : Nat, k = (K : Int) := ⟨k.toNat, by omega⟩
  have h1 : 1 ≤ K := by omega
  have h2 : K ≤ 9223372036854775807 := by omega
  by_cases hl : 8192 < blen V
  · exact rfinds_long A n c xs V K h1 h2 hl w hT hA hV hn'
  by_cases hw : V < D.pw 40
  · by_cases h0 : V = 0
    · exact rfinds_zero A n c xs V K h1 h2 h0 w hT hA hV hn'
    by_cases hV1 : V = 1
    · exact rfinds_one1 A n c xs V K h1 h2 hV1 w hT hA hV hn'
    by_cases hR2 : 2 ≤ rt K V
    · by_cases hE : Ex K V
      · exact rfinds_ex A n c xs V K h1 h2 hw hR2 hE w hT hA hV hn'
      · exact rfinds_no A n c xs V K h1 h2 hw hR2 hE w hT hA hV hn'
    · have hR1 : 1 ≤ rt K V := le_rt h1 (by rw [Nat.one_pow]; omega)
      exact rfinds_one0 A n c xs V K h1 h2 hw (by omega) (by omega) w hT hA hV hn'
  · exact rfinds_wide A n c xs V K h1 h2 (by omega) hw w hT hA hV hn'
end Go.Proofs.YtkgbgmhkbigjhaaDoor
