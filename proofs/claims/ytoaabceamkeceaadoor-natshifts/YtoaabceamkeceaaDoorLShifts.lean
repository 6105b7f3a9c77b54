/- The walk of the law NatShifts. -/
import Derived.Test.YtoaabceamkeceaaDoorWRShr
import Derived.Test.YtoaabceamkeceaaDoorLBack
namespace Go.Proofs.YtoaabceamkeceaaDoor
open Go.RowKit

/-- What stands while the law runs: the number that came in, and the table. -/
def St1 (w w' : World) (A : Option Addr) (n c : Nat) (xs : List Nat) : Prop := Below w.heap.size w w' ∧ Tab w' ∧ Lim w' A n c xs
theorem St1.next {w w1 w2 : World} {A : Option Addr} {n c : Nat} {xs : List Nat} (h : St1 w w1 A n c xs) (hb : Below w1.heap.size w1 w2) : St1 w w2 A n c xs :=
  ⟨h.1.trans (hb.mono h.1.size), h.2.1.below hb, h.2.2.below hb⟩

theorem bit_low {X lw : Nat} (hX : 0 < X) (hl : low X = lw) : X / 2 ^ lw % 2 = 1 := by
  obtain ⟨m, hm⟩ := low_spec hX
  rw [hl] at hm
  rw [hm, Nat.mul_div_cancel_left _ (Nat.pow_pos (by decide))]
  omega
theorem bit_under {X lw k : Nat} (hX : 0 < X) (hl : low X = lw) (hk : k < lw) : X / 2 ^ k % 2 = 0 := by
  obtain ⟨m, hm⟩ := low_spec hX
  rw [hl] at hm
  obtain ⟨d, rfl⟩ : ∃ d, lw = k + (d + 1) := ⟨lw - k - 1, by omega⟩
  rw [hm, Nat.pow_add, Nat.mul_assoc, Nat.mul_div_cancel_left _ (Nat.pow_pos (by decide)), Nat.pow_succ, Nat.mul_assoc, Nat.mul_comm (2 ^ d), Nat.mul_assoc]
  omega
theorem low_lt_blen {X : Nat} (hX : 0 < X) : low X < blen X := by
  obtain ⟨m, hm⟩ := low_spec hX
  have h1 := lt_blen X
  have h2 : 2 ^ low X ≤ X := by
    have : 2 ^ low X * 1 ≤ 2 ^ low X * (2 * m + 1) := Nat.mul_le_mul_left _ (by omega)
    omega
  exact (Nat.pow_lt_pow_iff_right (a := 2) (by decide)).1 (Nat.lt_of_le_of_lt h2 h1)

set_option maxHeartbeats 4000000 in
set_option maxRecDepth 100000 in
theorem shifts_far (A : Option Addr) (n c : Nat) (i : Int) (w : World) (hT : Tab w) (hn : n ≤ 9223372036854775807) (hfar : 40 < n) :
    Calls Tryd.prog 4 #[.slice A n c, .int .i64 i] w fun e w' => e = .returned (.bool true) ∧ Below w.heap.size w w' := by
  have Hal := Lib.hid (alive_any w hT)
  have b1 : decide ((40 : Int) < (n : Int)) = true := by simp; omega
  clear hfar
  go_enter Tryd.func4, Tryd.ntmps4
  go_wp2_with fail
  refine Hal.out.mono ?_
  rintro e w1 ⟨rfl, hb⟩
  go_wp2
  go_ret
  exact ⟨rfl, hb⟩

set_option maxHeartbeats 8000000 in
set_option maxRecDepth 100000 in
theorem shifts_zero (A : Option Addr) (n c : Nat) (xs : List Nat) (i : Int) (w : World) (hT : Tab w) (hA : Lim w A n c xs) (hn : n ≤ 40) (hi0 : -9223372036854775808 ≤ i) (hib : i ≤ 9223372036854775807) (h0 : val xs = 0) :
    Calls Tryd.prog 4 #[.slice A n c, .int .i64 i] w fun e w' => e = .returned (.bool true) ∧ Below w.heap.size w w' := by
  have Hal := Lib.hid (alive_any w hT)
  have hS : St1 w w A n c xs := ⟨Below.refl _ _, hT, hA⟩
  obtain ⟨X, hX⟩ : ∃ X, val xs = X := ⟨_, rfl⟩
  rw [hX] at h0
  have hblb := blen_le_iff.2 (show val xs < 2 ^ (64 * n) by rw [← pw_two, ← hA.len]; exact val_lt hA.words)
  rw [hX] at hblb
  have HX := Lib.hid hX
  have H0 := Lib.hid h0
  have Hbl : Hid (blen X = 0) := by rw [h0]; rfl
  have Hlw : Hid (low X = 0) := by rw [h0]; rfl
  have Hob : Hid (decide (X % 2 = 1) = false) := by rw [h0]; rfl
  clear h0
  have b1 : decide ((40 : Int) < (n : Int)) = false := by simp; omega
  clear hX hA hT hblb
  go_enter Tryd.func4, Tryd.ntmps4
  go_wp2_with fail
  refine Hal.out.mono ?_
  rintro e w1 ⟨rfl, hb⟩
  replace hS := hS.next hb
  clear hb
  go_wp2_with fail
  refine (to_any _ _ _ _ _ hS.2.2 (by omega)).mono ?_
  rintro e w2 ⟨A1, m1, c1, ds, rfl, hm1, hds, hbd, hv, hb⟩
  have Hds : Hid (D.val ds = X) := by rw [hv, HX.out]; rfl
  have Hbd := Lib.hid hbd
  replace hS := hS.next hb
  clear hb hv hbd
  have h3 := rbits_any _ _ _ _ _ hds Hbd.out (by omega)
  rw [Hds.out, Hbl.out] at h3
  have H3 := Lib.hid h3
  clear h3
  go_wp2_with fail
  refine H3.out.mono ?_
  rintro e w3 ⟨rfl, rfl⟩
  clear H3
  go_wp2_with fail
  go_loop [7] (fun i => i = .int .i64 0) (fun _ => 0)
  case atStart => rfl
  case round =>
    obtain rfl := hrel
    have h4 := bits_any _ _ _ _ _ hS.2.2 (by omega)
    rw [HX.out, Hbl.out] at h4
    have H4 := Lib.hid h4
    clear h4
    go_wp2_with fail
    refine H4.out.mono ?_
    rintro e w4 ⟨rfl, rfl⟩
    clear H4
    have h5 := low_any _ _ _ _ _ hS.2.2 (by omega) hS.2.1
    rw [HX.out, Hlw.out] at h5
    have H5 := Lib.hid h5
    clear h5
    go_wp2_with fail
    refine H5.out.mono ?_
    rintro e w5 ⟨rfl, rfl⟩
    clear H5
    have h6 := odd_any _ _ _ _ _ hS.2.2 (by omega)
    rw [HX.out, Hob.out] at h6
    have H6 := Lib.hid h6
    clear h6
    go_wp2_with fail
    refine H6.out.mono ?_
    rintro e w6 ⟨rfl, rfl⟩
    clear H6
    obtain ⟨R, hR⟩ : ∃ R, decide (X % 2 ^ i.toNat ≠ 0) = R := ⟨_, rfl⟩
    have h7 := shr_all _ _ _ _ _ hS.2.2 (by omega) hS.2.1 i hib
    rw [HX.out, hR] at h7
    have H7 := Lib.hid h7
    have HR := Lib.hid hR
    clear h7 hR
    go_wp2_with fail
    refine H7.out.mono ?_
    rintro e w7 ⟨A3, m3, c3, qs, rfl, hm3, hqs, hbq, hv, hb⟩
    have Hqs := Lib.hid hv
    have Hbq := Lib.hid hbq
    replace hS := hS.next hb
    replace hds := hds.below hb
    clear hb hv hbq H7
    have h8 := rshr_any _ _ _ _ i _ hds Hbd.out (by omega) hib
    rw [Hds.out, HR.out] at h8
    have H8 := Lib.hid h8
    clear h8
    go_wp2_with fail
    refine H8.out.mono ?_
    rintro e w8 ⟨A4, m4, c4, es, rfl, hm4, hes, hbe, hv, hb⟩
    have Hes := Lib.hid hv
    have Hbe := Lib.hid hbe
    replace hS := hS.next hb
    replace hds := hds.below hb
    replace hqs := hqs.below hb
    clear hb hv hbe H8
    go_wp2_with fail
    refine (same_any _ _ _ _ _ _ _ _ _ hqs Hbq.out hes Hbe.out (by rw [Hqs.out, Hes.out]) (by omega)).mono ?_
    rintro e w9 ⟨rfl, hb⟩
    replace hS := hS.next hb
    replace hds := hds.below hb
    clear hb hqs hes
    have g : i < 0 ∨ (0 ≤ i ∧ 4000 < i) ∨ (0 ≤ i ∧ i ≤ 4000) := by omega
    rcases g with g | ⟨g1, g3⟩ | ⟨g1, g3⟩
    · have d1 : decide (i < 0) = true := by simp; omega
      go_wp2_with fail
      refine (shl_neg _ _ _ _ i g).mono ?_
      rintro e w10 ⟨rfl, rfl⟩
      go_wp2
      go_ret
      exact ⟨rfl, hS.1⟩
    · have d1 : decide (i < 0) = false := by simp; omega
      have d3 : decide ((4000 : Int) < i) = true := by simp; omega
      have h10 := shl_zero _ _ _ _ _ hS.2.2 (by omega) i g1 (by rw [HX.out]; exact H0.out)
      have H10 := Lib.hid h10
      clear h10
      go_wp2_with fail
      refine H10.out.mono ?_
      rintro e w10 ⟨rfl, rfl⟩
      go_wp2
      go_ret
      exact ⟨rfl, hS.1⟩
    · obtain ⟨N, rfl⟩ := Int.eq_ofNat_of_zero_le g1
      have d1 : decide ((N : Int) < 0) = false := by simp
      have d3 : decide ((4000 : Int) < (N : Int)) = false := by simp; omega
      have h10 := shl_all _ _ _ _ _ hS.2.2 (by omega) N (Or.inr (by rw [HX.out]; exact H0.out))
      have H10 := Lib.hid h10
      clear h10
      go_wp2_with fail
      refine H10.out.mono ?_
      rintro e w10 ⟨A5, m5, c5, ts, rfl, hm5, hts, hbt, hv, hb⟩
      have Hts : Hid (val ts = X * 2 ^ N) := by rw [hv, HX.out]; rfl
      have Hbt := Lib.hid hbt
      replace hS := hS.next hb
      replace hds := hds.below hb
      clear hb hv hbt H10
      go_wp2_with fail
      refine (rshl_any _ _ _ _ N _ hds Hbd.out (by omega) (by omega)).mono ?_
      rintro e w11 ⟨A6, m6, c6, fs, rfl, hm6, hfs, hbf, hv, hb⟩
      have Hfs : Hid (D.val fs = X * 2 ^ N) := by rw [hv, Hds.out]; rfl
      have Hbf := Lib.hid hbf
      replace hS := hS.next hb
      replace hts := hts.below hb
      clear hb hv hbf hds
      go_wp2_with fail
      refine (same_any _ _ _ _ _ _ _ _ _ hts Hbt.out hfs Hbf.out (by rw [Hts.out, Hfs.out]) (by omega)).mono ?_
      rintro e w12 ⟨rfl, hb⟩
      replace hS := hS.next hb
      clear hb hts hfs
      go_wp2
      go_ret
      exact ⟨rfl, hS.1⟩

set_option maxHeartbeats 8000000 in
set_option maxRecDepth 100000 in
theorem shifts_pos (A : Option Addr) (n c : Nat) (xs : List Nat) (i : Int) (w : World) (hT : Tab w) (hA : Lim w A n c xs) (hn : n ≤ 40) (hi0 : -9223372036854775808 ≤ i) (hib : i ≤ 9223372036854775807) (h0 : 0 < val xs) :
    Calls Tryd.prog 4 #[.slice A n c, .int .i64 i] w fun e w' => e = .returned (.bool true) ∧ Below w.heap.size w w' := by
  have Hal := Lib.hid (alive_any w hT)
  have hS : St1 w w A n c xs := ⟨Below.refl _ _, hT, hA⟩
  obtain ⟨X, hX⟩ : ∃ X, val xs = X := ⟨_, rfl⟩
  rw [hX] at h0
  have hblb := blen_le_iff.2 (show val xs < 2 ^ (64 * n) by rw [← pw_two, ← hA.len]; exact val_lt hA.words)
  rw [hX] at hblb
  have HX := Lib.hid hX
  obtain ⟨bl, hbl⟩ : ∃ bl, blen X = bl := ⟨_, rfl⟩
  obtain ⟨lw, hlw⟩ : ∃ lw, low X = lw := ⟨_, rfl⟩
  obtain ⟨ob, hob⟩ : ∃ ob, decide (X % 2 = 1) = ob := ⟨_, rfl⟩
  have hll := low_lt_blen h0
  rw [hbl, hlw] at hll
  rw [hbl] at hblb
  have b3 : ((lw : Int) == 0) = ob := by
    have := odd_low h0
    rw [hlw] at this
    rw [← hob]
    by_cases h1 : lw = 0
    · rw [decide_eq_true (this.1 h1)]; exact beq_iff_eq.2 (by omega)
    · rw [decide_eq_false (fun h => h1 (this.2 h))]; exact beq_eq_false_iff_ne.2 (by omega)
  have Hb1 := Lib.hid (bit_low h0 hlw)
  have Hb0 : Hid (∀ k, k < lw → X / 2 ^ k % 2 = 0) := fun k hk => bit_under h0 hlw hk
  have Hbl := Lib.hid hbl
  have Hlw := Lib.hid hlw
  have Hob := Lib.hid hob
  have H0 := Lib.hid h0
  have b4 : decide (0 < bl) = true := by simp; omega
  have b5 : decide ((0 : Int) < (bl : Int)) = true := by simp; omega
  have b6 : ((bl : Int) == 0) = false := beq_eq_false_iff_ne.2 (by omega)
  clear hbl hlw hob h0
  have b1 : decide ((40 : Int) < (n : Int)) = false := by simp; omega
  clear hX hA hT
  go_enter Tryd.func4, Tryd.ntmps4
  go_wp2_with fail
  refine Hal.out.mono ?_
  rintro e w1 ⟨rfl, hb⟩
  replace hS := hS.next hb
  clear hb
  go_wp2_with fail
  refine (to_any _ _ _ _ _ hS.2.2 (by omega)).mono ?_
  rintro e w2 ⟨A1, m1, c1, ds, rfl, hm1, hds, hbd, hv, hb⟩
  have Hds : Hid (D.val ds = X) := by rw [hv, HX.out]; rfl
  have Hbd := Lib.hid hbd
  replace hS := hS.next hb
  clear hb hv hbd
  have h3 := rbits_any _ _ _ _ _ hds Hbd.out (by omega)
  rw [Hds.out, Hbl.out] at h3
  have H3 := Lib.hid h3
  clear h3
  go_wp2_with fail
  refine H3.out.mono ?_
  rintro e w3 ⟨rfl, rfl⟩
  clear H3
  go_wp2_with fail
  go_loop [7] (fun i => ∃ k : Nat, k ≤ lw ∧ i = .int .i64 k) (fun i => lw - (intOf i).toNat)
  case atStart => exact ⟨0, Nat.zero_le _, rfl⟩
  case round =>
    obtain ⟨k, hk, rfl⟩ := hrel
    have b7 : decide (k < bl) = true := by simp; omega
    by_cases hkl : k < lw
    · have hbit := rbit_any 0 A1 m1 c1 ds k w2 hds (by omega) (by omega) (by rw [Hds.out]; exact Hb0.out k hkl)
      have Hbit := Lib.hid hbit
      clear hbit
      go_wp2_with fail
      refine Hbit.out.mono ?_
      rintro e w' ⟨rfl, rfl⟩
      go_wp2
      go_round
      case rel => exact ⟨k + 1, by omega, by go_num⟩
      case measure => simp [intOf]; omega
    · obtain rfl : k = lw := by omega
      have hbit := rbit_any 1 A1 m1 c1 ds k w2 hds (by omega) (by omega) (by rw [Hds.out]; exact Hb1)
      have Hbit := Lib.hid hbit
      clear hbit
      go_wp2_with fail
      refine Hbit.out.mono ?_
      rintro e w' ⟨rfl, rfl⟩
      clear Hbit b7 Hb0 Hb1
      have h4 := bits_any _ _ _ _ _ hS.2.2 (by omega)
      rw [HX.out, Hbl.out] at h4
      have H4 := Lib.hid h4
      clear h4
      go_wp2_with fail
      refine H4.out.mono ?_
      rintro e w4 ⟨rfl, rfl⟩
      clear H4
      have h5 := low_any _ _ _ _ _ hS.2.2 (by omega) hS.2.1
      rw [HX.out, Hlw.out] at h5
      have H5 := Lib.hid h5
      clear h5
      go_wp2_with fail
      refine H5.out.mono ?_
      rintro e w5 ⟨rfl, rfl⟩
      clear H5
      have h6 := odd_any _ _ _ _ _ hS.2.2 (by omega)
      rw [HX.out, Hob.out] at h6
      have H6 := Lib.hid h6
      clear h6
      go_wp2_with fail
      refine H6.out.mono ?_
      rintro e w6 ⟨rfl, rfl⟩
      clear H6
      obtain ⟨R, hR⟩ : ∃ R, decide (X % 2 ^ i.toNat ≠ 0) = R := ⟨_, rfl⟩
      have h7 := shr_all _ _ _ _ _ hS.2.2 (by omega) hS.2.1 i hib
      rw [HX.out, hR] at h7
      have H7 := Lib.hid h7
      have HR := Lib.hid hR
      clear h7 hR
      go_wp2_with fail
      refine H7.out.mono ?_
      rintro e w7 ⟨A3, m3, c3, qs, rfl, hm3, hqs, hbq, hv, hb⟩
      have Hqs := Lib.hid hv
      have Hbq := Lib.hid hbq
      replace hS := hS.next hb
      replace hds := hds.below hb
      clear hb hv hbq H7
      have h8 := rshr_any _ _ _ _ i _ hds Hbd.out (by omega) hib
      rw [Hds.out, HR.out] at h8
      have H8 := Lib.hid h8
      clear h8
      go_wp2_with fail
      refine H8.out.mono ?_
      rintro e w8 ⟨A4, m4, c4, es, rfl, hm4, hes, hbe, hv, hb⟩
      have Hes := Lib.hid hv
      have Hbe := Lib.hid hbe
      replace hS := hS.next hb
      replace hds := hds.below hb
      replace hqs := hqs.below hb
      clear hb hv hbe H8
      go_wp2_with fail
      refine (same_any _ _ _ _ _ _ _ _ _ hqs Hbq.out hes Hbe.out (by rw [Hqs.out, Hes.out]) (by omega)).mono ?_
      rintro e w9 ⟨rfl, hb⟩
      replace hS := hS.next hb
      replace hds := hds.below hb
      clear hb hqs hes
      have g : i < 0 ∨ (0 ≤ i ∧ 65536 < (bl : Int) + i) ∨ (0 ≤ i ∧ (bl : Int) + i ≤ 65536 ∧ 4000 < i) ∨ (0 ≤ i ∧ (bl : Int) + i ≤ 65536 ∧ i ≤ 4000) := by omega
      rcases g with g | ⟨g1, g2⟩ | ⟨g1, g2, g3⟩ | ⟨g1, g2, g3⟩
      · have d1 : decide (i < 0) = true := by simp; omega
        go_wp2_with fail
        refine (shl_neg _ _ _ _ i g).mono ?_
        rintro e w10 ⟨rfl, rfl⟩
        go_wp2
        go_ret
        exact ⟨rfl, hS.1⟩
      · have d1 : decide (i < 0) = false := by simp; omega
        have d2 : decide (65536 - (bl : Int) < i) = true := by simp; omega
        have h10 := shl_long _ _ _ _ _ hS.2.2 (by omega) i g1 hib (by rw [HX.out]; exact Nat.ne_of_gt H0.out) (by rw [HX.out, Hbl.out]; exact g2)
        have H10 := Lib.hid h10
        clear h10
        go_wp2_with fail
        refine H10.out.mono ?_
        rintro e w10 ⟨rfl, rfl⟩
        go_wp2
        go_ret
        exact ⟨rfl, hS.1⟩
      · obtain ⟨N, rfl⟩ := Int.eq_ofNat_of_zero_le g1
        have d1 : decide ((N : Int) < 0) = false := by simp
        have d2 : decide (65536 - (bl : Int) < (N : Int)) = false := by simp; omega
        have d3 : decide ((4000 : Int) < (N : Int)) = true := by simp; omega
        have h10 := shl_all _ _ _ _ _ hS.2.2 (by omega) N (Or.inl (by rw [HX.out, Hbl.out]; omega))
        have H10 := Lib.hid h10
        clear h10
        go_wp2_with fail
        refine H10.out.mono ?_
        rintro e w10 ⟨A5, m5, c5, ts, rfl, hm5, hts, hbt, hv, hb⟩
        have hbt2 : blen (val ts) = bl + N := by rw [hv, HX.out, blen_shl (Nat.ne_of_gt H0.out), Hbl.out]
        replace hS := hS.next hb
        have h11 := bits_any _ _ _ _ _ hts (by omega)
        rw [hbt2, show ((bl + N : Nat) : Int) = (bl : Int) + (N : Int) from by omega] at h11
        have H11 := Lib.hid h11
        have d4 : ((bl : Int) + (N : Int) - (N : Int) == (bl : Int)) = true := beq_iff_eq.2 (by omega)
        have d5 : (bl : Int) + (N : Int) - (N : Int) = (bl : Int) := by omega
        clear hb hv hbt hbt2 h11 hts H10
        go_wp2_with fail
        refine H11.out.mono ?_
        rintro e w11 ⟨rfl, rfl⟩
        go_wp2
        go_ret
        exact ⟨by simp, hS.1⟩
      · obtain ⟨N, rfl⟩ := Int.eq_ofNat_of_zero_le g1
        have d1 : decide ((N : Int) < 0) = false := by simp
        have d2 : decide (65536 - (bl : Int) < (N : Int)) = false := by simp; omega
        have d3 : decide ((4000 : Int) < (N : Int)) = false := by simp; omega
        have h10 := shl_all _ _ _ _ _ hS.2.2 (by omega) N (Or.inl (by rw [HX.out, Hbl.out]; omega))
        have H10 := Lib.hid h10
        clear h10
        go_wp2_with fail
        refine H10.out.mono ?_
        rintro e w10 ⟨A5, m5, c5, ts, rfl, hm5, hts, hbt, hv, hb⟩
        have Hts : Hid (val ts = X * 2 ^ N) := by rw [hv, HX.out]; rfl
        have Hbt := Lib.hid hbt
        replace hS := hS.next hb
        replace hds := hds.below hb
        clear hb hv hbt H10
        go_wp2_with fail
        refine (rshl_any _ _ _ _ N _ hds Hbd.out (by omega) (by omega)).mono ?_
        rintro e w11 ⟨A6, m6, c6, fs, rfl, hm6, hfs, hbf, hv, hb⟩
        have Hfs : Hid (D.val fs = X * 2 ^ N) := by rw [hv, Hds.out]; rfl
        have Hbf := Lib.hid hbf
        replace hS := hS.next hb
        replace hts := hts.below hb
        clear hb hv hbf hds
        go_wp2_with fail
        refine (same_any _ _ _ _ _ _ _ _ _ hts Hbt.out hfs Hbf.out (by rw [Hts.out, Hfs.out]) (by omega)).mono ?_
        rintro e w12 ⟨rfl, hb⟩
        replace hS := hS.next hb
        clear hb hts hfs
        go_wp2
        go_ret
        exact ⟨rfl, hS.1⟩

theorem walk_natShifts (A : Option Addr) (n c : Nat) (xs : List Nat) (i : Int) (w : World) (hT : Tab w) (hA : Lim w A n c xs) (hn : n ≤ 9223372036854775807) (hi0 : -9223372036854775808 ≤ i) (hib : i ≤ 9223372036854775807) :
    Calls Tryd.prog 4 #[.slice A n c, .int .i64 i] w fun e w' => e = .returned (.bool true) ∧ Below w.heap.size w w' := by
  by_cases h : 40 < n
  · exact shifts_far A n c i w hT hn h
  · rcases Nat.eq_zero_or_pos (val xs) with h0 | h0
    · exact shifts_zero A n c xs i w hT hA (by omega) hi0 hib h0
    · exact shifts_pos A n c xs i w hT hA (by omega) hi0 hib h0
end Go.Proofs.YtoaabceamkeceaaDoor
