/- The walk of planimeterlaw06.FloatWhole. -/
import Derived.Test.YtgkjlfhflndddaaDoorFlAlive
namespace Go.Proofs.YtgkjlfhflndddaaDoor
open Go.RowKit

/-- Exact of a whole number below 2^53, scaled a little. -/
theorem whole_bits {g : Bool} {k : Nat} {e : Int} (h0 : k ≠ 0) (hk : k < 9007199254740992) (h1 : -1 ≤ e) (h2 : e ≤ 0) : ∃ b, exD (nO g k e) = (b, true) ∧ b < 18446744073709551616 ∧ Fnt b ∧ fm b ≠ 0 ∧ fng b = g ∧ (fO b).V = k / 2 ^ low k ∧ (fO b).e = e + low k := by
  have hd : nO g k e = ⟨g, k / 2 ^ low k, e + low k⟩ := by rw [nO_pos _ _ h0, held_id (by omega) (by omega)]
  have hVne : k / 2 ^ low k ≠ 0 := fun h => h0 (odd_part_zero.1 h)
  have hbl : blen k = blen (k / 2 ^ low k) + low k := by
    have := blen_shl (n := low k) hVne
    rw [odd_part] at this
    exact this
  have hb1 : blen k ≤ 53 := blen_le_iff.2 hk
  have hB := blen_pos hVne
  rcases exD_cases (nO g k e) with ⟨q1, _⟩ | ⟨_, q1, _⟩ | ⟨_, _, _, _, q1⟩
  · rw [hd] at q1; exact absurd q1 hVne
  · rw [hd] at q1; simp only at q1; exfalso; omega
  · obtain ⟨b, hb⟩ : ∃ b, exD (nO g k e) = (b, true) := ⟨_, q1⟩
    obtain ⟨f1, f2, f4⟩ := exD_yes (nO_odd g k e) hb
    rw [hd] at f4
    have h3 : fm b ≠ 0 := fun h => by
      rw [fO_zero h] at f4
      have := congrArg Dy.V f4
      simp only at this
      exact hVne this.symm
    exact ⟨b, hb, f1, f2, h3, by rw [← (fO_pos f2 h3).1, f4], by rw [f4], by rw [f4]⟩
theorem fwh_of {b : Nat} {E : Int} (hf : Fnt b) (h0 : fm b ≠ 0) (hE : (fO b).e = E) : fwh b = (decide (0 ≤ E), decide (E = 0)) := by rw [fwh, if_neg h0, if_pos hf, hE]
/-- How often a number can be halved, by its rests. -/
theorem low_rests {k : Nat} (h : 0 < k) : (low k = 0 ∧ k % 2 = 1 ∧ k % 4 ≠ 2) ∨ (low k = 1 ∧ k % 2 = 0 ∧ k % 4 = 2) ∨ (2 ≤ low k ∧ k % 2 = 0 ∧ k % 4 = 0) := by
  have h1 := low_lt_iff (n := 1) h
  have h2 := low_lt_iff (n := 2) h
  rw [show (2 : Nat) ^ 1 = 2 from rfl] at h1
  rw [show (2 : Nat) ^ 2 = 4 from rfl] at h2
  omega


set_option maxHeartbeats 1000000 in
set_option maxRecDepth 20000 in
theorem fwhole_a (n k l b h V : Nat) (g : Bool) (w : World) (hT : Tab w) (hk0 : k ≠ 0) (hk : k < 9007199254740992) (hnk : (n : Int) % 9007199254740992 = (k : Int)) (r4 : Nat) (hr2 : (k : Int) % 2 = 1) (hr4 : (k : Int) % 4 = (r4 : Int)) (c4 : ((r4 : Int) == 2) = false)
    (hb : b < 18446744073709551616) (hh : h < 18446744073709551616) (H1 : Hid (exD (nO g (val [k]) 0) = (b, true))) (H2 : Hid (exD (nO g (val [k]) (-1)) = (h, true)))
    (W1 : Hid (fwh b = (true, true))) (W2 : Hid (fwh h = (false, false))) (Hp : Hid (∀ w, Tab w → Calls Tryd.prog 13 #[.int .u64 (b : Int)] w fun e w' => e = .returned (.tuple #[.int .u64 (V : Int), .int .i64 (l : Int), .bool true]) ∧ w = w')) (Hg : Hid (fng b = g)) (HV : Hid (V * 2 ^ l = k)) (hl : l ≤ 53) :
    Calls Tryd.prog 6 #[.int .u64 (n : Int), .bool g] w fun e w' => e = .returned (.bool true) ∧ Below w.heap.size w w' := by
  have c1 : ((k : Int) == 0) = false := beq_no (fun h => hk0 (by omega))
  have HT := Lib.hid hT
  clear hT hk0
  go_enter Tryd.func6, Tryd.ntmps6
  go_wp2_with fail
  refine (falive_any w HT.out).mono ?_
  rintro e w1 ⟨rfl, hb1⟩
  have a1 := below1 w1 (.cells #[.int .u64 (k : Int)] 22)
  have n1 := lim_new1 w1 22 k k rfl (by omega)
  have a2 := below1 (w1.alloc (.cells #[.int .u64 (k : Int)] 22)) (.cells #[.bool g, .slice (some ⟨w1.heap.size, 0, none⟩) 1 1, .int .i64 0] 28)
  have a3 := hb1.trans ((a1.trans (a2.mono a1.size)).mono hb1.size)
  have HB2 := Lib.hid a3
  have HE1 := Lib.hid (exact_l b true g _ 1 1 [k] 0 _ (n1.below a2) (by decide) (HT.out.below a3) H1)
  clear a1 a2 a3 n1 hb1
  go_wp2_with fail
  refine HE1.out.mono ?_
  rintro e w2 ⟨rfl, hb2⟩
  have HB3 := Lib.hid (HB2.out.trans (hb2.mono HB2.out.size))
  clear HE1 HB2 hb2
  go_wp2_with fail
  have a1 := below1 w2 (.cells #[.int .u64 (k : Int)] 22)
  have n1 := lim_new1 w2 22 k k rfl (by omega)
  have a3 := HB3.out.trans (a1.mono HB3.out.size)
  have HB4 := Lib.hid a3
  have HE1 := Lib.hid (exact_l h true g _ 1 1 [k] (-1) _ n1 (by decide) (HT.out.below a3) H2)
  clear a1 a3 n1 HB3
  refine HE1.out.mono ?_
  rintro e w3 ⟨rfl, hb3⟩
  have HB5 := Lib.hid (HB4.out.trans (hb3.mono HB4.out.size))
  have HT3 := Lib.hid (HT.out.below HB5.out)
  clear HE1 HB4 hb3 HT
  go_wp2_with fail
  refine (fwhole_l _ _ b hb w3 HT3.out W1).mono ?_
  rintro e w' ⟨rfl, rfl⟩
  go_wp2_with fail
  refine (fwhole_l _ _ h hh w3 HT3.out W2).mono ?_
  rintro e w' ⟨rfl, rfl⟩
  go_wp2_with fail
  refine (Hp.out w3 HT3.out).mono ?_
  rintro e w' ⟨rfl, rfl⟩
  clear Hp W1 W2 H1 H2 HT3
  go_wp2
  go_loop [15, 16] (fun m i => ∃ M j : Nat, m = .int .u64 M ∧ i = .int .i64 j ∧ j ≤ 53 ∧ Hid (M * 2 ^ j = k)) (fun m i => (intOf i).toNat)
  case atStart => exact ⟨V, l, rfl, rfl, hl, HV⟩
  case round =>
    obtain ⟨M, j, rfl, rfl, hj, H⟩ := hrel
    have HH := H.out
    by_cases hj0 : j = 0
    · subst hj0
      obtain rfl : M = k := by rw [← HH]; exact (Nat.mul_one _).symm
      clear HH H HV
      go_wp2_with fail
      refine (fneg_l g b hb w3 Hg).mono ?_
      rintro e w' ⟨rfl, rfl⟩
      go_wp2
      go_ret
      exact ⟨rfl, HB5.out⟩
    · obtain ⟨i, rfl⟩ : ∃ i, j = i + 1 := ⟨j - 1, by omega⟩
      have h2 : M * 2 * 2 ^ i = k := by rw [← HH, Nat.pow_succ, Nat.mul_comm (2 ^ i), Nat.mul_assoc]
      have h3 : M * 2 * 1 ≤ M * 2 * 2 ^ i := Nat.mul_le_mul_left _ (Nat.two_pow_pos _)
      have h4 : M < 9007199254740992 := by omega
      have b1 : decide ((M : Int) < 1152921504606846976) = true := decide_eq_true (by omega)
      have H2 := Lib.hid h2
      clear h2 h3 HH H
      go_wp2
      go_round
      case rel => exact ⟨2 * M, i, by go_num, by go_num, by omega, by rw [Nat.mul_comm 2 M]; exact H2.out⟩
      case measure => simp [intOf]

set_option maxHeartbeats 1000000 in
set_option maxRecDepth 20000 in
theorem fwhole_b (n k l b h V : Nat) (g : Bool) (w : World) (hT : Tab w) (hk0 : k ≠ 0) (hk : k < 9007199254740992) (hnk : (n : Int) % 9007199254740992 = (k : Int)) (hr2 : (k : Int) % 2 = 0) (hr4 : (k : Int) % 4 = 2)
    (hb : b < 18446744073709551616) (hh : h < 18446744073709551616) (H1 : Hid (exD (nO g (val [k]) 0) = (b, true))) (H2 : Hid (exD (nO g (val [k]) (-1)) = (h, true)))
    (W1 : Hid (fwh b = (true, false))) (W2 : Hid (fwh h = (true, true))) (Hp : Hid (∀ w, Tab w → Calls Tryd.prog 13 #[.int .u64 (b : Int)] w fun e w' => e = .returned (.tuple #[.int .u64 (V : Int), .int .i64 (l : Int), .bool true]) ∧ w = w')) (Hg : Hid (fng b = g)) (HV : Hid (V * 2 ^ l = k)) (hl : l ≤ 53) :
    Calls Tryd.prog 6 #[.int .u64 (n : Int), .bool g] w fun e w' => e = .returned (.bool true) ∧ Below w.heap.size w w' := by
  have c1 : ((k : Int) == 0) = false := beq_no (fun h => hk0 (by omega))
  have HT := Lib.hid hT
  clear hT hk0
  go_enter Tryd.func6, Tryd.ntmps6
  go_wp2_with fail
  refine (falive_any w HT.out).mono ?_
  rintro e w1 ⟨rfl, hb1⟩
  have a1 := below1 w1 (.cells #[.int .u64 (k : Int)] 22)
  have n1 := lim_new1 w1 22 k k rfl (by omega)
  have a2 := below1 (w1.alloc (.cells #[.int .u64 (k : Int)] 22)) (.cells #[.bool g, .slice (some ⟨w1.heap.size, 0, none⟩) 1 1, .int .i64 0] 28)
  have a3 := hb1.trans ((a1.trans (a2.mono a1.size)).mono hb1.size)
  have HB2 := Lib.hid a3
  have HE1 := Lib.hid (exact_l b true g _ 1 1 [k] 0 _ (n1.below a2) (by decide) (HT.out.below a3) H1)
  clear a1 a2 a3 n1 hb1
  go_wp2_with fail
  refine HE1.out.mono ?_
  rintro e w2 ⟨rfl, hb2⟩
  have HB3 := Lib.hid (HB2.out.trans (hb2.mono HB2.out.size))
  clear HE1 HB2 hb2
  go_wp2_with fail
  have a1 := below1 w2 (.cells #[.int .u64 (k : Int)] 22)
  have n1 := lim_new1 w2 22 k k rfl (by omega)
  have a3 := HB3.out.trans (a1.mono HB3.out.size)
  have HB4 := Lib.hid a3
  have HE1 := Lib.hid (exact_l h true g _ 1 1 [k] (-1) _ n1 (by decide) (HT.out.below a3) H2)
  clear a1 a3 n1 HB3
  refine HE1.out.mono ?_
  rintro e w3 ⟨rfl, hb3⟩
  have HB5 := Lib.hid (HB4.out.trans (hb3.mono HB4.out.size))
  have HT3 := Lib.hid (HT.out.below HB5.out)
  clear HE1 HB4 hb3 HT
  go_wp2_with fail
  refine (fwhole_l _ _ b hb w3 HT3.out W1).mono ?_
  rintro e w' ⟨rfl, rfl⟩
  go_wp2_with fail
  refine (fwhole_l _ _ h hh w3 HT3.out W2).mono ?_
  rintro e w' ⟨rfl, rfl⟩
  go_wp2_with fail
  refine (Hp.out w3 HT3.out).mono ?_
  rintro e w' ⟨rfl, rfl⟩
  clear Hp W1 W2 H1 H2 HT3
  go_wp2
  go_loop [15, 16] (fun m i => ∃ M j : Nat, m = .int .u64 M ∧ i = .int .i64 j ∧ j ≤ 53 ∧ Hid (M * 2 ^ j = k)) (fun m i => (intOf i).toNat)
  case atStart => exact ⟨V, l, rfl, rfl, hl, HV⟩
  case round =>
    obtain ⟨M, j, rfl, rfl, hj, H⟩ := hrel
    have HH := H.out
    by_cases hj0 : j = 0
    · subst hj0
      obtain rfl : M = k := by rw [← HH]; exact (Nat.mul_one _).symm
      clear HH H HV
      go_wp2_with fail
      refine (fneg_l g b hb w3 Hg).mono ?_
      rintro e w' ⟨rfl, rfl⟩
      go_wp2
      go_ret
      exact ⟨rfl, HB5.out⟩
    · obtain ⟨i, rfl⟩ : ∃ i, j = i + 1 := ⟨j - 1, by omega⟩
      have h2 : M * 2 * 2 ^ i = k := by rw [← HH, Nat.pow_succ, Nat.mul_comm (2 ^ i), Nat.mul_assoc]
      have h3 : M * 2 * 1 ≤ M * 2 * 2 ^ i := Nat.mul_le_mul_left _ (Nat.two_pow_pos _)
      have h4 : M < 9007199254740992 := by omega
      have b1 : decide ((M : Int) < 1152921504606846976) = true := decide_eq_true (by omega)
      have H2 := Lib.hid h2
      clear h2 h3 HH H
      go_wp2
      go_round
      case rel => exact ⟨2 * M, i, by go_num, by go_num, by omega, by rw [Nat.mul_comm 2 M]; exact H2.out⟩
      case measure => simp [intOf]

set_option maxHeartbeats 1000000 in
set_option maxRecDepth 20000 in
theorem fwhole_c (n k l b h V : Nat) (g : Bool) (w : World) (hT : Tab w) (hk0 : k ≠ 0) (hk : k < 9007199254740992) (hnk : (n : Int) % 9007199254740992 = (k : Int)) (hr2 : (k : Int) % 2 = 0) (hr4 : (k : Int) % 4 = 0)
    (hb : b < 18446744073709551616) (hh : h < 18446744073709551616) (H1 : Hid (exD (nO g (val [k]) 0) = (b, true))) (H2 : Hid (exD (nO g (val [k]) (-1)) = (h, true)))
    (W1 : Hid (fwh b = (true, false))) (W2 : Hid (fwh h = (true, false))) (Hp : Hid (∀ w, Tab w → Calls Tryd.prog 13 #[.int .u64 (b : Int)] w fun e w' => e = .returned (.tuple #[.int .u64 (V : Int), .int .i64 (l : Int), .bool true]) ∧ w = w')) (Hg : Hid (fng b = g)) (HV : Hid (V * 2 ^ l = k)) (hl : l ≤ 53) :
    Calls Tryd.prog 6 #[.int .u64 (n : Int), .bool g] w fun e w' => e = .returned (.bool true) ∧ Below w.heap.size w w' := by
  have c1 : ((k : Int) == 0) = false := beq_no (fun h => hk0 (by omega))
  have HT := Lib.hid hT
  clear hT hk0
  go_enter Tryd.func6, Tryd.ntmps6
  go_wp2_with fail
  refine (falive_any w HT.out).mono ?_
  rintro e w1 ⟨rfl, hb1⟩
  have a1 := below1 w1 (.cells #[.int .u64 (k : Int)] 22)
  have n1 := lim_new1 w1 22 k k rfl (by omega)
  have a2 := below1 (w1.alloc (.cells #[.int .u64 (k : Int)] 22)) (.cells #[.bool g, .slice (some ⟨w1.heap.size, 0, none⟩) 1 1, .int .i64 0] 28)
  have a3 := hb1.trans ((a1.trans (a2.mono a1.size)).mono hb1.size)
  have HB2 := Lib.hid a3
  have HE1 := Lib.hid (exact_l b true g _ 1 1 [k] 0 _ (n1.below a2) (by decide) (HT.out.below a3) H1)
  clear a1 a2 a3 n1 hb1
  go_wp2_with fail
  refine HE1.out.mono ?_
  rintro e w2 ⟨rfl, hb2⟩
  have HB3 := Lib.hid (HB2.out.trans (hb2.mono HB2.out.size))
  clear HE1 HB2 hb2
  go_wp2_with fail
  have a1 := below1 w2 (.cells #[.int .u64 (k : Int)] 22)
  have n1 := lim_new1 w2 22 k k rfl (by omega)
  have a3 := HB3.out.trans (a1.mono HB3.out.size)
  have HB4 := Lib.hid a3
  have HE1 := Lib.hid (exact_l h true g _ 1 1 [k] (-1) _ n1 (by decide) (HT.out.below a3) H2)
  clear a1 a3 n1 HB3
  refine HE1.out.mono ?_
  rintro e w3 ⟨rfl, hb3⟩
  have HB5 := Lib.hid (HB4.out.trans (hb3.mono HB4.out.size))
  have HT3 := Lib.hid (HT.out.below HB5.out)
  clear HE1 HB4 hb3 HT
  go_wp2_with fail
  refine (fwhole_l _ _ b hb w3 HT3.out W1).mono ?_
  rintro e w' ⟨rfl, rfl⟩
  go_wp2_with fail
  refine (fwhole_l _ _ h hh w3 HT3.out W2).mono ?_
  rintro e w' ⟨rfl, rfl⟩
  go_wp2_with fail
  refine (Hp.out w3 HT3.out).mono ?_
  rintro e w' ⟨rfl, rfl⟩
  clear Hp W1 W2 H1 H2 HT3
  go_wp2
  go_loop [15, 16] (fun m i => ∃ M j : Nat, m = .int .u64 M ∧ i = .int .i64 j ∧ j ≤ 53 ∧ Hid (M * 2 ^ j = k)) (fun m i => (intOf i).toNat)
  case atStart => exact ⟨V, l, rfl, rfl, hl, HV⟩
  case round =>
    obtain ⟨M, j, rfl, rfl, hj, H⟩ := hrel
    have HH := H.out
    by_cases hj0 : j = 0
    · subst hj0
      obtain rfl : M = k := by rw [← HH]; exact (Nat.mul_one _).symm
      clear HH H HV
      go_wp2_with fail
      refine (fneg_l g b hb w3 Hg).mono ?_
      rintro e w' ⟨rfl, rfl⟩
      go_wp2
      go_ret
      exact ⟨rfl, HB5.out⟩
    · obtain ⟨i, rfl⟩ : ∃ i, j = i + 1 := ⟨j - 1, by omega⟩
      have h2 : M * 2 * 2 ^ i = k := by rw [← HH, Nat.pow_succ, Nat.mul_comm (2 ^ i), Nat.mul_assoc]
      have h3 : M * 2 * 1 ≤ M * 2 * 2 ^ i := Nat.mul_le_mul_left _ (Nat.two_pow_pos _)
      have h4 : M < 9007199254740992 := by omega
      have b1 : decide ((M : Int) < 1152921504606846976) = true := decide_eq_true (by omega)
      have H2 := Lib.hid h2
      clear h2 h3 HH H
      go_wp2
      go_round
      case rel => exact ⟨2 * M, i, by go_num, by go_num, by omega, by rw [Nat.mul_comm 2 M]; exact H2.out⟩
      case measure => simp [intOf]

theorem fwhole_zero (n : Nat) (g : Bool) (w : World) (hT : Tab w) (hnk : (n : Int) % 9007199254740992 = 0) :
    Calls Tryd.prog 6 #[.int .u64 (n : Int), .bool g] w fun e w' => e = .returned (.bool true) ∧ Below w.heap.size w w' := by
  have HT := Lib.hid hT
  clear hT
  go_enter Tryd.func6, Tryd.ntmps6
  go_wp2_with fail
  refine (falive_any w HT.out).mono ?_
  rintro e w1 ⟨rfl, hb1⟩
  have HB := Lib.hid hb1
  clear hb1
  go_wp2
  go_ret
  exact ⟨rfl, HB.out⟩

theorem walk_floatWhole (n0 : Int) (g : Bool) (w : World) (hT : Tab w) (h0 : 0 ≤ n0) (hn0 : n0 ≤ 18446744073709551615) :
    Calls Tryd.prog 6 #[.int .u64 n0, .bool g] w fun e w' => e = .returned (.bool true) ∧ Below w.heap.size w w' := by
  obtain ⟨n, rfl⟩ := Int.eq_ofNat_of_zero_le h0
  obtain ⟨k, hk⟩ : ∃ k, n % 9007199254740992 = k := ⟨_, rfl⟩
  by_cases hk0 : k = 0
  · exact fwhole_zero n g w hT (by omega)
  · have hkl : k < 9007199254740992 := by omega
    obtain ⟨b, b1, b2, b3, b4, b5, b6, b7⟩ := whole_bits (g := g) (e := 0) hk0 hkl (by decide) (by decide)
    obtain ⟨h, h1, h2, h3, h4, h5, h6, h7⟩ := whole_bits (g := g) (e := -1) hk0 hkl (by decide) (by decide)
    have e1 : (fO b).e = ((low k : Nat) : Int) := by rw [b7]; omega
    have hl : low k ≤ 53 := by
      have := (low_lt_iff (x := k) (n := 53) (Nat.pos_of_ne_zero hk0)).2 (by show k % 9007199254740992 ≠ 0; omega)
      omega
    have hp : ∀ w, Tab w → Calls Tryd.prog 13 #[.int .u64 (b : Int)] w fun e w' => e = .returned (.tuple #[.int .u64 ((k / 2 ^ low k : Nat) : Int), .int .i64 ((low k : Nat) : Int), .bool true]) ∧ w = w' :=
      fun w hT => fparts_yes _ _ b b2 w hT b4 b3 b6 e1
    have hV := odd_part k
    have W1 := fwh_of b3 b4 e1
    have W2 := fwh_of h3 h4 h7
    rw [← show val [k] = k from by show k + 18446744073709551616 * 0 = k; omega] at b1 h1
    rcases low_rests (Nat.pos_of_ne_zero hk0) with ⟨q1, q2, q3⟩ | ⟨q1, q2, q3⟩ | ⟨q1, q2, q3⟩
    · exact fwhole_a n k (low k) b h _ g w hT hk0 hkl (by omega) (k % 4) (by omega) (by omega) (beq_no (by omega)) b2 h2 b1 h1 (by show _ = _; rw [W1, q1]; rfl) (by show _ = _; rw [W2, q1]; rfl) hp b5 hV hl
    · exact fwhole_b n k (low k) b h _ g w hT hk0 hkl (by omega) (by omega) (by omega) b2 h2 b1 h1 (by show _ = _; rw [W1, q1]; rfl) (by show _ = _; rw [W2, q1]; rfl) hp b5 hV hl
    · exact fwhole_c n k (low k) b h _ g w hT hk0 hkl (by omega) (by omega) (by omega) b2 h2 b1 h1 (by show _ = _; rw [W1, decide_eq_true (by omega), decide_eq_false (by omega)]) (by show _ = _; rw [W2, decide_eq_true (by omega), decide_eq_false (by omega)]) hp b5 hV hl
end Go.Proofs.YtgkjlfhflndddaaDoor
