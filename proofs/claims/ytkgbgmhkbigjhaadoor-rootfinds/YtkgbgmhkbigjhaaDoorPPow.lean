/- The walks of prod.squares and prod.Pow: any power of any number. -/
import Derived.Test.YtkgbgmhkbigjhaaDoorPMul
import Derived.Test.YtkgbgmhkbigjhaaDoorWRCmp
namespace Go.Proofs.YtkgbgmhkbigjhaaDoor
open Go.RowKit

theorem half_bit (k p : Nat) : k / 2 ^ p = 2 * (k / 2 ^ (p + 1)) + k / 2 ^ p % 2 := by
  rw [Nat.pow_succ, ← Nat.div_div_eq_div_mul]
  omega
theorem top_one {k : Nat} (hk : 1 ≤ k) : k / 2 ^ (blen k - 1) = 1 := by
  have h1 := blen_le (show k ≠ 0 by omega)
  have h2 := lt_blen k
  have h3 := blen_pos (show k ≠ 0 by omega)
  have h4 : 2 ^ blen k = 2 * 2 ^ (blen k - 1) := by
    rw [Nat.mul_comm, ← Nat.pow_succ]
    congr 1
    omega
  rw [h4] at h2
  apply Nat.div_eq_of_lt_le
  · omega
  · omega
theorem pow_le_of {X j k : Nat} (hX : 1 ≤ X) (h : j ≤ k) : X ^ j ≤ X ^ k := Nat.pow_le_pow_right hX h

theorem bits_and_i64_nat (a b : Nat) (ha : a < 9223372036854775808) (hb : b < 9223372036854775808) : bits .and .i64 (a : Int) (b : Int) = ((a &&& b : Nat) : Int) := by
  have hx : a &&& b < 2 ^ 63 := Nat.and_lt_two_pow _ (by omega)
  have h1 : (BitVec.ofInt 64 (a : Int)).toNat = a := by
    rw [BitVec.ofInt_natCast, BitVec.toNat_ofNat]; exact Nat.mod_eq_of_lt (by omega)
  have h2 : (BitVec.ofInt 64 (b : Int)).toNat = b := by
    rw [BitVec.ofInt_natCast, BitVec.toNat_ofNat]; exact Nat.mod_eq_of_lt (by omega)
  show IntKind.i64.wrap ((BitVec.ofInt 64 (a : Int) &&& BitVec.ofInt 64 (b : Int)).toNat : Int) = _
  rw [BitVec.toNat_and, h1, h2, IntKind.wrap_i64]
  omega
theorem and_one_i64 (k p : Nat) (hk : k < 9223372036854775808) : bits BinOp.and IntKind.i64 ((k : Int) / 2 ^ p) 1 = ((k / 2 ^ p % 2 : Nat) : Int) := by
  have h1 : k / 2 ^ p ≤ k := Nat.div_le_self _ _
  have h := bits_and_i64_nat (k / 2 ^ p) 1 (by omega) (by decide)
  rw [Nat.and_one_is_mod] at h
  rw [← h]
  congr 1

/-- What squares and Pow tell: the power, or that it is too long. -/
def PowTells (w : World) (V : Nat) (e : Ending) (w' : World) : Prop :=
  (blen V ≤ 65536 ∧ Tells2 w V 1024 (.int .i64 0) e w') ∨ (65536 < blen V ∧ e = .returned (.tuple #[.slice none 0 0, .int .i64 2]) ∧ Below w.heap.size w w')

set_option maxHeartbeats 4000000 in
set_option maxRecDepth 100000 in
theorem squares_any (A : Option Addr) (n c : Nat) (xs : List Nat) (k : Nat) (w : World) (hA : Lim w A n c xs) (hb : Bare xs) (hX : 2 ≤ val xs) (hL : blen (val xs) ≤ 65536) (hk1 : 1 ≤ k) (hk : k ≤ 65535) :
    Calls Tryd.prog 35 #[.slice A n c, .int .i64 (k : Int)] w (PowTells w (val xs ^ k)) := by
  have hn : n ≤ 1024 := by have := len_of_blen hA.words hb hL (show 65536 ≤ 64 * 1024 by decide); have := hA.len; omega
  have hn1 : 1 ≤ n := by have := val_pos_len (show val xs ≠ 0 by omega); have := hA.tl_le; omega
  have HA := Lib.hid hA
  have Hb := Lib.hid hb
  have hlen := plen_any k w (by omega)
  have hbk := blen_pos (show k ≠ 0 by omega)
  have hbk2 := blen_le_iff.2 (show k < 2 ^ 16 by omega)
  have Htop := Lib.hid (top_one hk1)
  generalize hB : blen k = B at hlen hbk hbk2 Htop
  have Hlen := Lib.hid hlen
  generalize hXX : val xs = X at hX hL
  have HX := Lib.hid hXX
  have HLX := Lib.hid hL
  have HX2 := Lib.hid hX
  clear hA hb hlen hB hXX hL hX
  go_enter Tryd.func35, Tryd.ntmps35
  go_wp2_with fail
  refine Hlen.out.mono ?_
  rintro e w' ⟨rfl, rfl⟩
  go_wp2_with fail
  go_loopw [6, 7] (fun v i wr => ∃ (p m1 c1 : Nat) (A1 : Option Addr) (zs : List Nat), p + 1 ≤ B ∧ i = .int .i64 ((p : Int) - 1) ∧ v = .slice A1 m1 c1 ∧ 1 ≤ m1 ∧ m1 ≤ 1024 ∧ Hid (Lim wr A1 m1 c1 zs) ∧ Hid (Bare zs) ∧ Hid (val zs = X ^ (k / 2 ^ p)) ∧ Hid (blen (val zs) ≤ 65536) ∧ Below w.heap.size w wr) (fun _ i _ => (intOf i + 1).toNat)
  case atStart =>
    obtain ⟨B', rfl⟩ : ∃ B', B = B' + 1 := ⟨B - 1, by omega⟩
    exact ⟨B', n, c, A, xs, by omega, by go_num, rfl, hn1, hn, HA, Hb, by rw [show B' = B' + 1 - 1 from rfl, Htop.out, Nat.pow_one]; exact HX, by rw [HX.out]; exact HLX, Below.refl _ _⟩
  case round =>
    obtain ⟨w1, rfl⟩ : ∃ w1, w1 = wr := ⟨_, rfl⟩
    obtain ⟨p, m1, c1, A1, zs, hp, rfl, rfl, hm1, hm2, Hz, Hbz, HV, HbV, hbel⟩ := hrel
    cases p with
    | zero =>
      have Hfin : Hid (PowTells w (X ^ k) (.returned (.tuple #[.slice A1 m1 c1, .int .i64 0])) w1) := by
        have h1 := HV.out
        rw [Nat.pow_zero, Nat.div_one] at h1
        exact Or.inl ⟨by rw [← h1]; exact HbV.out, A1, m1, c1, zs, rfl, hm2, Hz.out, Hbz.out, h1, hbel⟩
      clear HV HbV
      go_wp2
      go_ret2
      exact Hfin.out
    | succ p =>
      rw [show (((p + 1 : Nat) : Int) - 1) = (p : Int) from by omega]
      obtain ⟨r, hr⟩ : ∃ r, k / 2 ^ p % 2 = r := ⟨_, rfl⟩
      have hr2 : r < 2 := by omega
      have Hst : Hid (k / 2 ^ p = 2 * (k / 2 ^ (p + 1)) + r) := by rw [← hr]; exact half_bit k p
      have Hle : Hid (k / 2 ^ p ≤ k) := Nat.div_le_self _ _
      have hbit := and_one_i64 k p (by omega)
      rw [hr] at hbit
      clear hr
      have HC := Lib.hid (columns_any A1 m1 c1 zs A1 m1 c1 zs w1 Hz.out Hz.out hm1 hm1 (by omega) (by omega))
      have hr01 : r = 0 ∨ r = 1 := by omega
      rcases hr01 with rfl | rfl
      · have b1 : (bits BinOp.and IntKind.i64 ((k : Int) / 2 ^ p) 1 == 1) = false := by rw [hbit]; rfl
        clear hbit hr2
        go_wp2_with fail
        refine HC.out.mono ?_
        rintro e w2 ⟨A2, m2, c2, us, rfl, hm3, hus, hbu, hvu, hb2⟩
        have hbel2 := hbel.trans (hb2.mono hbel.size)
        have hV2 : val us = X ^ (k / 2 ^ p) := by rw [hvu, HV.out, Hst.out, ← Nat.pow_add]; congr 1; omega
        have hpos : val us ≠ 0 := by rw [hV2]; exact Nat.pos_iff_ne_zero.1 (Nat.pow_pos (by have := HX2.out; omega))
        have hm4 : 1 ≤ m2 := by have := val_pos_len hpos; have := hus.tl_le; omega
        have Hus := Lib.hid hus
        have Hbu := Lib.hid hbu
        have HV2 := Lib.hid hV2
        obtain ⟨b, hbb⟩ : ∃ b, blen (val us) = b := ⟨_, rfl⟩
        have Hbb := Lib.hid hbb
        have Hb2 := Lib.hid (bits_to b A2 m2 c2 us w2 hus (by omega) hbb)
        have Hbel2 := Lib.hid hbel2
        have hbm : b ≤ 64 * m2 := by
          have := tl_of_blen hus.words
          have := hus.tl_le
          omega
        clear hus hbu hvu hb2 hV2 hpos hbb hbel2
        go_wp2_with fail
        refine Hb2.out.mono ?_
        rintro e w' ⟨rfl, rfl⟩
        by_cases hfit : b ≤ 65536
        · have b2 : decide ((65536 : Int) < (b : Int)) = false := by simp; omega
          have hm5 : m2 ≤ 1024 := by
            have := len_of_blen Hus.out.words Hbu.out (show blen (val us) ≤ 65536 by rw [Hbb.out]; exact hfit) (show 65536 ≤ 64 * 1024 by decide)
            have := Hus.out.len
            omega
          go_wp2
          go_roundw
          case rel => exact ⟨p, m2, c2, A2, us, by omega, by go_num, rfl, hm4, hm5, Hus, Hbu, HV2, by rw [Hbb.out]; exact hfit, Hbel2.out⟩
          case measure => simp [intOf]
        · have b2 : decide ((65536 : Int) < (b : Int)) = true := by simp; omega
          have Hfin : Hid (PowTells w (X ^ k) (.returned (.tuple #[.slice none 0 0, .int .i64 2])) w2) := by
            refine Or.inr ⟨?_, rfl, Hbel2.out⟩
            have h1 := blen_mono (pow_le_of (X := X) (by have := HX2.out; omega) Hle.out)
            rw [← HV2.out, Hbb.out] at h1
            omega
          go_wp2
          go_ret2
          exact Hfin.out
      · have b1 : (bits BinOp.and IntKind.i64 ((k : Int) / 2 ^ p) 1 == 1) = true := by rw [hbit]; rfl
        clear hbit hr2
        go_wp2_with fail
        refine HC.out.mono ?_
        rintro e w3 ⟨A3, m3, c3, vs, rfl, hm3, hvs, hbv, hvv, hb3⟩
        have hpos3 : val vs ≠ 0 := by rw [hvv, HV.out, ← Nat.pow_add]; exact Nat.pos_iff_ne_zero.1 (Nat.pow_pos (by have := HX2.out; omega))
        have hm3' : 1 ≤ m3 := by have := val_pos_len hpos3; have := hvs.tl_le; omega
        have hbel3 := hbel.trans (hb3.mono hbel.size)
        have hC2 := columns_any A3 m3 c3 vs A n c xs w3 hvs (HA.out.below hbel3) hm3' hn1 (by omega) (by omega)
        rw [hvv, HV.out, HX.out, ← Nat.pow_add, ← Nat.pow_succ, show (k / 2 ^ (p + 1) + k / 2 ^ (p + 1)).succ = k / 2 ^ p from by have := Hst.out; omega] at hC2
        have HC2 := Lib.hid hC2
        have Hbel3 := Lib.hid hbel3
        clear hvs hbv hvv hb3 hpos3 hC2 hbel3
        go_wp2_with fail
        refine HC2.out.mono ?_
        rintro e w2 ⟨A2, m2, c2, us, rfl, hm4, hus, hbu, hV2, hb2⟩
        have hbel2 := Hbel3.out.trans (hb2.mono Hbel3.out.size)
        have hpos : val us ≠ 0 := by rw [hV2]; exact Nat.pos_iff_ne_zero.1 (Nat.pow_pos (by have := HX2.out; omega))
        have hm4' : 1 ≤ m2 := by have := val_pos_len hpos; have := hus.tl_le; omega
        have Hus := Lib.hid hus
        have Hbu := Lib.hid hbu
        have HV2 := Lib.hid hV2
        obtain ⟨b, hbb⟩ : ∃ b, blen (val us) = b := ⟨_, rfl⟩
        have Hbb := Lib.hid hbb
        have Hb2 := Lib.hid (bits_to b A2 m2 c2 us w2 hus (by omega) hbb)
        have Hbel2 := Lib.hid hbel2
        have hbm : b ≤ 64 * m2 := by
          have := tl_of_blen hus.words
          have := hus.tl_le
          omega
        clear hus hbu hb2 hV2 hpos hbb hbel2
        go_wp2_with fail
        refine Hb2.out.mono ?_
        rintro e w' ⟨rfl, rfl⟩
        by_cases hfit : b ≤ 65536
        · have b2 : decide ((65536 : Int) < (b : Int)) = false := by simp; omega
          have hm5 : m2 ≤ 1024 := by
            have := len_of_blen Hus.out.words Hbu.out (show blen (val us) ≤ 65536 by rw [Hbb.out]; exact hfit) (show 65536 ≤ 64 * 1024 by decide)
            have := Hus.out.len
            omega
          go_wp2
          go_roundw
          case rel => exact ⟨p, m2, c2, A2, us, by omega, by go_num, rfl, hm4', hm5, Hus, Hbu, HV2, by rw [Hbb.out]; exact hfit, Hbel2.out⟩
          case measure => simp [intOf]
        · have b2 : decide ((65536 : Int) < (b : Int)) = true := by simp; omega
          have Hfin : Hid (PowTells w (X ^ k) (.returned (.tuple #[.slice none 0 0, .int .i64 2])) w2) := by
            refine Or.inr ⟨?_, rfl, Hbel2.out⟩
            have h1 := blen_mono (pow_le_of (X := X) (by have := HX2.out; omega) Hle.out)
            rw [← HV2.out, Hbb.out] at h1
            omega
          go_wp2
          go_ret2
          exact Hfin.out

theorem pow_neg (A : Option Addr) (n c : Nat) (k : Int) (w : World) (hk : k < 0) :
    Calls Tryd.prog 20 #[.slice A n c, .int .i64 k] w fun e w' => e = .returned (.tuple #[.slice none 0 0, .int .i64 1]) ∧ w = w' := by
  have b1 : decide (k < 0) = true := by simp; omega
  go_enter Tryd.func20, Tryd.ntmps20
  go_wp2
  go_ret2
  exact ⟨rfl, rfl⟩

set_option maxHeartbeats 1000000 in
theorem pow_any (A : Option Addr) (n c : Nat) (xs : List Nat) (k : Nat) (w : World) (hA : Lim w A n c xs) (hn : n ≤ 1000000) (hk : k ≤ 9223372036854775807) :
    Calls Tryd.prog 20 #[.slice A n c, .int .i64 (k : Int)] w (PowTells w (val xs ^ k)) := by
  by_cases h0 : k = 0
  · subst h0
    have Hof := Lib.hid (of_any 1 (by decide) w)
    go_enter Tryd.func20, Tryd.ntmps20
    go_wp2_with fail
    refine Hof.out.mono ?_
    rintro e w1 ⟨A1, m1, c1, zs, rfl, hm1, hzs⟩
    have Hfin : Hid (PowTells w (val xs ^ 0) (.returned (.tuple #[.slice A1 m1 c1, .int .i64 0])) w1) := Or.inl ⟨by rw [Nat.pow_zero]; decide, A1, m1, c1, zs, rfl, by omega, hzs⟩
    clear hzs
    go_wp2
    go_ret2
    exact Hfin.out
  · have b0 : ((k : Int) == 0) = false := beq_eq_false_iff_ne.2 (by omega)
    have HB := Lib.hid (bare_any A n c xs w hA (by omega))
    go_enter Tryd.func20, Tryd.ntmps20
    go_wp2_with fail
    refine HB.out.mono ?_
    rintro e w1 ⟨A1, m1, c1, zs, rfl, hm1, hzs, hbz, hv, hb⟩
    have Hfit : Hid (blen (val zs) ≤ 1 → PowTells w (val xs ^ k) (.returned (.tuple #[.slice A1 m1 c1, .int .i64 0])) w1) := fun h => by
      have h1 : val zs < 2 ^ 1 := blen_le_iff.1 h
      have h2 : val xs ^ k = val zs := by
        rw [← hv]
        have h3 : val zs = 0 ∨ val zs = 1 := by omega
        rcases h3 with h3 | h3
        · rw [h3]; exact Nat.zero_pow (by omega)
        · rw [h3]; exact Nat.one_pow k
      rw [h2]
      refine Or.inl ⟨by omega, A1, m1, c1, zs, rfl, ?_, hzs, hbz, rfl, hb⟩
      have := len_of_blen hzs.words hbz h (show 1 ≤ 64 * 1024 by decide)
      have := hzs.len
      omega
    cases hbb : blen (val zs) with
    | zero =>
      have Hfin := Lib.hid (Hfit.out (by omega))
      have Hb1 := Lib.hid (bits_to 0 A1 m1 c1 zs w1 hzs (by omega) hbb)
      clear hzs hbz hv hb hbb Hfit
      go_wp2_with fail
      refine Hb1.out.mono ?_
      rintro e w' ⟨rfl, rfl⟩
      go_wp2
      go_ret2
      exact Hfin.out
    | succ q =>
      have hbm : q + 1 ≤ 64 * m1 := by
        have := tl_of_blen hzs.words
        have := hzs.tl_le
        omega
      have hb1 := bits_to (q + 1) A1 m1 c1 zs w1 hzs (by omega) hbb
      have Hb1 := Lib.hid hb1
      clear hb1
      by_cases hq : q = 0
      · subst hq
        have Hfin := Lib.hid (Hfit.out (by omega))
        clear hzs hbz hv hb hbb Hfit
        go_wp2_with fail
        refine Hb1.out.mono ?_
        rintro e w' ⟨rfl, rfl⟩
        go_wp2
        go_ret2
        exact Hfin.out
      · obtain ⟨t, ht⟩ : ∃ t, 65535 / q = t := ⟨_, rfl⟩
        have e1 : (65535 : Int) / (q : Int) = (t : Int) := by rw [← ht]; exact (Int.natCast_ediv 65535 q).symm
        have ht2 : t ≤ 65535 := by rw [← ht]; exact Nat.div_le_self _ _
        have hq0 : (q : Int) ≠ 0 := by omega
        have b3 : decide ((q : Int) < 1) = false := by simp; omega
        by_cases hlong : t < k
        · have b4 : decide ((t : Int) < (k : Int)) = true := by simp; omega
          have Hfin : Hid (PowTells w (val xs ^ k) (.returned (.tuple #[.slice none 0 0, .int .i64 2])) w1) := by
            refine Or.inr ⟨?_, rfl, hb⟩
            have h1 := blen_pow_ge k (x := val zs) (fun h => by rw [h] at hbb; simp [blen] at hbb)
            rw [hbb, Nat.add_sub_cancel, hv] at h1
            have h2 : ¬ k * q ≤ 65535 := fun h => by
              have := (Nat.le_div_iff_mul_le (by omega)).2 h
              omega
            omega
          clear hzs hbz hv hb hbb Hfit ht
          go_wp2_with fail
          refine Hb1.out.mono ?_
          rintro e w' ⟨rfl, rfl⟩
          go_wp2
          go_ret2
          exact Hfin.out
        · have b4 : decide ((t : Int) < (k : Int)) = false := by simp; omega
          have h2 : k * q ≤ 65535 := by
            apply (Nat.le_div_iff_mul_le (by omega)).1
            omega
          have h3 : q ≤ k * q := Nat.le_mul_of_pos_left q (by omega)
          have hS := squares_any A1 m1 c1 zs k w1 hzs hbz (by
            rcases Nat.lt_or_ge (val zs) (2 ^ 1) with h | h
            · have := blen_le_iff.2 h; omega
            · exact h) (by omega) (by omega) (by omega)
          rw [hv] at hS
          have HS := Lib.hid hS
          have Hb := Lib.hid hb
          clear hzs hbz hv hb hbb Hfit ht hS h2 h3
          go_wp2_with fail
          refine Hb1.out.mono ?_
          rintro e w' ⟨rfl, rfl⟩
          go_wp2_with fail
          refine HS.out.mono ?_
          rintro e w2 (⟨h1, A2, m2, c2, us, rfl, h3, h4, h5, h6, h7⟩ | ⟨h1, rfl, h3⟩)
          · have Hfin : Hid (PowTells w (val xs ^ k) (.returned (.tuple #[.slice A2 m2 c2, .int .i64 0])) w2) := Or.inl ⟨h1, A2, m2, c2, us, rfl, h3, h4, h5, h6, Hb.out.trans (h7.mono Hb.out.size)⟩
            clear h1 h4 h5 h6 h7
            go_wp2
            go_ret2
            exact Hfin.out
          · have Hfin : Hid (PowTells w (val xs ^ k) (.returned (.tuple #[.slice none 0 0, .int .i64 2])) w2) := Or.inr ⟨h1, rfl, Hb.out.trans (h3.mono Hb.out.size)⟩
            clear h1 h3
            go_wp2
            go_ret2
            exact Hfin.out

theorem pow_ok (A : Option Addr) (n c : Nat) (xs : List Nat) (k : Nat) (w : World) (hA : Lim w A n c xs) (hn : n ≤ 1000000) (hk : k ≤ 9223372036854775807) (hfit : blen (val xs ^ k) ≤ 65536) :
    Calls Tryd.prog 20 #[.slice A n c, .int .i64 (k : Int)] w (Tells2 w (val xs ^ k) 1024 (.int .i64 0)) :=
  (pow_any A n c xs k w hA hn hk).mono fun _ _ h => by
    rcases h with ⟨_, h⟩ | ⟨h, _⟩
    · exact h
    · omega
theorem pow_long (A : Option Addr) (n c : Nat) (xs : List Nat) (k : Nat) (w : World) (hA : Lim w A n c xs) (hn : n ≤ 1000000) (hk : k ≤ 9223372036854775807) (hfit : 65536 < blen (val xs ^ k)) :
    Calls Tryd.prog 20 #[.slice A n c, .int .i64 (k : Int)] w fun e w' => e = .returned (.tuple #[.slice none 0 0, .int .i64 2]) ∧ Below w.heap.size w w' :=
  (pow_any A n c xs k w hA hn hk).mono fun _ _ h => by
    rcases h with ⟨h, _⟩ | ⟨_, h⟩
    · omega
    · exact h
end Go.Proofs.YtkgbgmhkbigjhaaDoor
