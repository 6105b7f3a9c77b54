/- The walk of planimeterlaw06.FloatTells. -/
import Derived.Test.YtgkjlfhflndddaaDoorFlTo
namespace Go.Proofs.YtgkjlfhflndddaaDoor
open Go.RowKit

set_option maxHeartbeats 1000000 in
set_option maxRecDepth 20000 in
theorem ftells_no (b K : Nat) (s : Bool) (w : World) (hT : Tab w) (hb : b < 18446744073709551616) (HK : Hid (fkd b = K)) (hK : 2 < K) (s1 : Hid (fng b = s)) (hf : ¬ Fnt b) (h0 : fm b ≠ 0) :
    Calls Tryd.prog 3 #[.int .u64 (b : Int)] w fun e w' => e = .returned (.bool true) ∧ Below w.heap.size w w' := by
  have Hf : Hid (decide (Fnt b) = false) := decide_eq_false hf
  have k1 : decide ((K : Int) ≤ 2) = false := decide_eq_false (by omega)
  have k2 : decide ((2 : Int) < (K : Int)) = true := decide_eq_true (by omega)
  have HD : Hid (∀ w, Calls Tryd.prog 12 #[.int .u64 (b : Int)] w fun e w' => e = .returned (.tuple #[.agg #[.bool false, .slice none 0 0, .int .i64 0], .bool false]) ∧ Below w.heap.size w w') := fun w => fdyad_no b hb w hf
  have HP : Hid (∀ w, Calls Tryd.prog 13 #[.int .u64 (b : Int)] w fun e w' => e = .returned (.tuple #[.int .u64 0, .int .i64 0, .bool false]) ∧ w = w') := fun w => fparts_no b hb w (Or.inr hf)
  have HW : Hid (fwh b = (false, false)) := by show _ = _; rw [fwh, if_neg h0, if_neg hf]
  clear hf h0
  have s2 : decide ((9223372036854775808 : Int) ≤ (b : Int)) = s := by
    rw [← s1.out]; unfold fng
    by_cases h : 9223372036854775808 ≤ b
    · rw [decide_eq_true h]; exact decide_eq_true (by omega)
    · rw [decide_eq_false h]; exact decide_eq_false (by omega)
  have s3 : decide (9223372036854775808 ≤ b) = s := s1.out
  have HT := Lib.hid hT
  clear hT
  go_enter Tryd.func3, Tryd.ntmps3
  go_wp2_with fail
  refine (falive_any w HT.out).mono ?_
  rintro e w1 ⟨rfl, hb1⟩
  have HS1 := Lib.hid hb1
  have HT1 := Lib.hid (HT.out.below hb1)
  clear hb1 HT
  go_wp2_with fail
  refine (rkind_l K b hb w1 HK).mono ?_
  rintro e w' ⟨rfl, rfl⟩
  go_wp2_with fail
  refine (fkind_l K b hb w1 HK).mono ?_
  rintro e w' ⟨rfl, rfl⟩
  go_wp2_with fail
  refine (fneg_l s b hb w1 s1).mono ?_
  rintro e w' ⟨rfl, rfl⟩
  go_wp2_with fail
  refine (ffin_l false b hb w1 Hf).mono ?_
  rintro e w' ⟨rfl, rfl⟩
  go_wp2_with fail
  refine (HD.out w1).mono ?_
  rintro e w2 ⟨rfl, hb2⟩
  have a1 := hb2.trans ((below1 w2 (.cells #[.bool false, .slice none 0 0, .int .i64 0] 28)).mono hb2.size)
  have HS2 := Lib.hid (HS1.out.trans (a1.mono HS1.out.size))
  have HT2 := Lib.hid (HT1.out.below a1)
  clear a1 hb2 HS1 HT1 HD
  go_wp2_with fail
  refine (HP.out _).mono ?_
  rintro e w' ⟨rfl, rfl⟩
  go_wp2_with fail
  refine (fwhole_l false false b hb _ HT2.out HW).mono ?_
  rintro e w' ⟨rfl, rfl⟩
  clear HP HW HK Hf HT2
  go_wp2
  go_ret
  exact ⟨rfl, HS2.out⟩


set_option maxHeartbeats 2000000 in
set_option maxRecDepth 20000 in
theorem ftells_z (b : Nat) (s : Bool) (w : World) (hT : Tab w) (hb : b < 18446744073709551616) (HK : Hid (fkd b = 0)) (s1 : Hid (fng b = s)) (Hf : Hid (decide (Fnt b) = true)) (hf : Fnt b) (HO : Hid (fO b = ⟨false, 0, 0⟩)) (HW : Hid (fwh b = (true, false)))
    (HP : Hid (∀ w, Tab w → Calls Tryd.prog 13 #[.int .u64 (b : Int)] w fun e w' => e = .returned (.tuple #[.int .u64 0, .int .i64 0, .bool false]) ∧ w = w')) (Hodd : Hid (Odd ⟨false, 0, 0⟩)) :
    Calls Tryd.prog 3 #[.int .u64 (b : Int)] w fun e w' => e = .returned (.bool true) ∧ Below w.heap.size w w' := by
  have HD : Hid (∀ w, Tab w → Calls Tryd.prog 12 #[.int .u64 (b : Int)] w (FTold w ⟨false, 0, 0⟩ 1)) := fun w hT => by rw [← HO.out]; exact fdyad_yes b hb w hT hf
  have Hw : Hid (∀ w, Calls Tryd.prog 15 #[.int .u64 (b : Int)] w (NTold w ⟨false, 0, 0⟩ 4)) := fun w => by rw [← HO.out]; exact worth_any b hb w
  clear hf HO
  have s2 : decide ((9223372036854775808 : Int) ≤ (b : Int)) = s := by
    rw [← s1.out]; unfold fng
    by_cases h : 9223372036854775808 ≤ b
    · rw [decide_eq_true h]; exact decide_eq_true (by omega)
    · rw [decide_eq_false h]; exact decide_eq_false (by omega)
  have s3 : decide (9223372036854775808 ≤ b) = s := s1.out
  have HT := Lib.hid hT
  clear hT
  go_enter Tryd.func3, Tryd.ntmps3
  go_wp2_with fail
  refine (falive_any w HT.out).mono ?_
  rintro e w1 ⟨rfl, hb1⟩
  have HS1 := Lib.hid hb1
  have HT1 := Lib.hid (HT.out.below hb1)
  clear hb1 HT
  go_wp2_with fail
  refine (rkind_l 0 b hb w1 HK).mono ?_
  rintro e w' ⟨rfl, rfl⟩
  go_wp2_with fail
  refine (fkind_l 0 b hb w1 HK).mono ?_
  rintro e w' ⟨rfl, rfl⟩
  go_wp2_with fail
  refine (fneg_l s b hb w1 s1).mono ?_
  rintro e w' ⟨rfl, rfl⟩
  go_wp2_with fail
  refine (ffin_l true b hb w1 Hf).mono ?_
  rintro e w' ⟨rfl, rfl⟩
  go_wp2_with fail
  refine (HD.out w1 HT1.out).mono ?_
  rintro e w2 ⟨A2, m2, c2, z2, rfl, hm2, hl2, hd2, hv2, hb2⟩
  simp only at hv2
  obtain rfl : z2 = [] := by
    have h5 : tl z2 = 0 := tl_zero_iff.2 hv2
    rw [hd2] at h5
    exact List.eq_nil_of_length_eq_zero h5
  obtain rfl : m2 = 0 := hl2.len.symm
  have a1 := hb2.trans ((below1 w2 (.cells #[.bool false, .slice A2 0 c2, .int .i64 0] 28)).mono hb2.size)
  have HS2 := Lib.hid (HS1.out.trans (a1.mono HS1.out.size))
  have HT2 := Lib.hid (HT1.out.below a1)
  have HL2 := Lib.hid (hl2.alloc (.cells #[.bool false, .slice A2 0 c2, .int .i64 0] 28))
  have HB2 := Lib.hid (Bd.new w2 28 false A2 0 c2 0)
  clear a1 hb2 HS1 HT1 HD hl2 hd2 hv2
  go_wp2_with fail
  refine (HP.out _ HT2.out).mono ?_
  rintro e w' ⟨rfl, rfl⟩
  go_wp2_with fail
  refine (fwhole_l true false b hb _ HT2.out HW).mono ?_
  rintro e w' ⟨rfl, rfl⟩
  clear HP HW HK Hf HT2
  go_wp2_with fail
  refine (Hw.out _).mono ?_
  rintro e w3 ⟨A3, m3, c3, es, rfl, hm3, hl3, hd3, hv3, hb3⟩
  simp only at hv3
  obtain rfl : es = [] := by
    have h5 : D.tl es = 0 := D.tl_zero_iff.2 hv3
    rw [hd3] at h5
    exact List.eq_nil_of_length_eq_zero h5
  obtain rfl : m3 = 0 := hl3.len.symm
  have a1 := hb3.trans ((below1 w3 (.cells #[.bool false, .slice A3 0 c3, .int .i64 0] 37)).mono hb3.size)
  have HS3 := Lib.hid (HS2.out.trans (a1.mono HS2.out.size))
  have HL3 := Lib.hid (HL2.out.below a1)
  have HB3 := Lib.hid (HB2.out.below a1)
  have HC3 := Lib.hid (Bd.new w3 37 false A3 0 c3 0)
  have H4 := Lib.hid (rto_any false 0 0 A3 0 c3 [] _ (hl3.alloc (.cells #[.bool false, .slice A3 0 c3, .int .i64 0] 37)) hd3 hv3 (by omega) Hodd.out (by omega) (by omega))
  clear a1 HS2 HL2 HB2 Hw hl3 hd3 hv3 hb3
  go_wp2_with fail
  refine H4.out.mono ?_
  rintro e w4 ⟨A4, m4, c4, z4, rfl, hm4, hl4, hd4, hv4, hb4⟩
  simp only at hv4
  obtain rfl : z4 = [] := by
    have h5 : tl z4 = 0 := tl_zero_iff.2 hv4
    rw [hd4] at h5
    exact List.eq_nil_of_length_eq_zero h5
  obtain rfl : m4 = 0 := hl4.len.symm
  have a1 := hb4.trans ((below1 w4 (.cells #[.bool false, .slice A4 0 c4, .int .i64 0] 39)).mono hb4.size)
  have HS4 := Lib.hid (HS3.out.trans (a1.mono HS3.out.size))
  have HL4 := Lib.hid (HL3.out.below a1)
  have HB4 := Lib.hid (HB3.out.below a1)
  have HC4 := Lib.hid (HC3.out.below a1)
  have HM4 := Lib.hid (hl4.alloc (.cells #[.bool false, .slice A4 0 c4, .int .i64 0] 39))
  have HE4 := Lib.hid (Bd.new w4 39 false A4 0 c4 0)
  have H5 := Lib.hid (fsame_yes false A2 0 c2 [] 0 A4 c4 _ HL4.out HM4.out (by decide))
  have x0 := HB4.out.c0
  have x1 := HB4.out.c1
  have x2 := HB4.out.c2
  clear a1 HS3 HL3 HB3 HC3 hl4 hd4 hv4 hb4 H4 Hodd
  go_wp2_with fail
  refine H5.out.mono ?_
  rintro e w5 ⟨rfl, hb5⟩
  have HS5 := Lib.hid (HS4.out.trans (hb5.mono HS4.out.size))
  have HL5 := Lib.hid (HM4.out.below hb5)
  have HB5 := Lib.hid (HE4.out.below hb5)
  have HC5 := Lib.hid (HC4.out.below hb5)
  have y0 := HC5.out.c0
  have y1 := HC5.out.c1
  have y2 := HC5.out.c2
  have v1 := HB5.out.c1
  have v2 := HB5.out.c2
  have w1' : ∀ o, (w5.alloc o).cell? ⟨w4.heap.size, 1, none⟩ = some (.slice A4 0 c4) := fun o => (HB5.out.alloc o).c1
  clear HS4 HL4 HB4 HC4 HM4 HE4 H5 hb5 x0 x1 x2
  go_wp2
  go_ret
  exact ⟨rfl, HS5.out⟩

set_option maxHeartbeats 2000000 in
set_option maxRecDepth 20000 in
theorem ftells_l (b : Nat) (s : Bool) (w : World) (hT : Tab w) (hb : b < 18446744073709551616) (K : Nat) (hK0 : 0 < K) (hK : K ≤ 2) (V : Nat) (hV : 0 < V) (hV9 : V < 18446744073709551616) (E : Int) (hE1 : -2000 ≤ E) (hE2 : E ≤ 2000) (hE : E < 0) (HK : Hid (fkd b = K)) (s1 : Hid (fng b = s)) (Hf : Hid (decide (Fnt b) = true)) (hf : Fnt b) (HO : Hid (fO b = ⟨s, V, E⟩)) (HW : Hid (fwh b = (false, false)))
    (HP : Hid (∀ w, Tab w → Calls Tryd.prog 13 #[.int .u64 (b : Int)] w fun e w' => e = .returned (.tuple #[.int .u64 (V : Int), .int .i64 E, .bool true]) ∧ w = w')) (Hodd : Hid (Odd ⟨s, V, E⟩)) :
    Calls Tryd.prog 3 #[.int .u64 (b : Int)] w fun e w' => e = .returned (.bool true) ∧ Below w.heap.size w w' := by
  have k1 : decide ((K : Int) ≤ 2) = true := decide_eq_true (by omega)
  have k2 : decide ((2 : Int) < (K : Int)) = false := decide_eq_false (by omega)
  have k3 : ((K : Int) == 0) = false := beq_no (by omega)
  have k4 : decide ((0 : Int) < (K : Int)) = true := decide_eq_true (by omega)
  have q1 : decide (0 ≤ E) = false := decide_eq_false (by omega)
  have q2 : (E == 0) = false := beq_no (by omega)
  have HD : Hid (∀ w, Tab w → Calls Tryd.prog 12 #[.int .u64 (b : Int)] w (FTold w ⟨s, V, E⟩ 1)) := fun w hT => by rw [← HO.out]; exact fdyad_yes b hb w hT hf
  have Hw : Hid (∀ w, Calls Tryd.prog 15 #[.int .u64 (b : Int)] w (NTold w ⟨s, V, E⟩ 4)) := fun w => by rw [← HO.out]; exact worth_any b hb w
  clear hf HO
  have s2 : decide ((9223372036854775808 : Int) ≤ (b : Int)) = s := by
    rw [← s1.out]; unfold fng
    by_cases h : 9223372036854775808 ≤ b
    · rw [decide_eq_true h]; exact decide_eq_true (by omega)
    · rw [decide_eq_false h]; exact decide_eq_false (by omega)
  have s3 : decide (9223372036854775808 ≤ b) = s := s1.out
  have HT := Lib.hid hT
  clear hT
  go_enter Tryd.func3, Tryd.ntmps3
  go_wp2_with fail
  refine (falive_any w HT.out).mono ?_
  rintro e w1 ⟨rfl, hb1⟩
  have HS1 := Lib.hid hb1
  have HT1 := Lib.hid (HT.out.below hb1)
  clear hb1 HT
  go_wp2_with fail
  refine (rkind_l K b hb w1 HK).mono ?_
  rintro e w' ⟨rfl, rfl⟩
  go_wp2_with fail
  refine (fkind_l K b hb w1 HK).mono ?_
  rintro e w' ⟨rfl, rfl⟩
  go_wp2_with fail
  refine (fneg_l s b hb w1 s1).mono ?_
  rintro e w' ⟨rfl, rfl⟩
  go_wp2_with fail
  refine (ffin_l true b hb w1 Hf).mono ?_
  rintro e w' ⟨rfl, rfl⟩
  go_wp2_with fail
  refine (HD.out w1 HT1.out).mono ?_
  rintro e w2 ⟨A2, m2, c2, z2, rfl, hm2, hl2, hd2, hv2, hb2⟩
  simp only at hv2
  obtain rfl : z2 = [V] := bare_eq hl2.words (Words.one hV9) hd2 (bare_one (by omega)) (hv2.trans (by show V = V + 18446744073709551616 * 0; omega))
  obtain rfl : m2 = 1 := hl2.len.symm
  have a1 := hb2.trans ((below1 w2 (.cells #[.bool s, .slice A2 1 c2, .int .i64 E] 28)).mono hb2.size)
  have HS2 := Lib.hid (HS1.out.trans (a1.mono HS1.out.size))
  have HT2 := Lib.hid (HT1.out.below a1)
  have HL2 := Lib.hid (hl2.alloc (.cells #[.bool s, .slice A2 1 c2, .int .i64 E] 28))
  have HB2 := Lib.hid (Bd.new w2 28 s A2 1 c2 E)
  clear a1 hb2 HS1 HT1 HD hl2 hd2 hv2
  go_wp2_with fail
  refine (HP.out _ HT2.out).mono ?_
  rintro e w' ⟨rfl, rfl⟩
  go_wp2_with fail
  refine (fwhole_l false false b hb _ HT2.out HW).mono ?_
  rintro e w' ⟨rfl, rfl⟩
  clear HP HW HK Hf HT2
  go_wp2_with fail
  refine (Hw.out _).mono ?_
  rintro e w3 ⟨A3, m3, c3, es, rfl, hm3, hl3, hd3, hv3, hb3⟩
  simp only at hv3
  have hm3' : 0 < m3 := by
    rcases Nat.eq_zero_or_pos m3 with h | h
    · exfalso
      have h5 := hl3.len
      rw [h] at h5
      rw [List.eq_nil_of_length_eq_zero h5] at hv3
      have h6 : (0 : Nat) = V := hv3
      omega
    · exact h
  have t1 : decide ((0 : Int) < (m3 : Int)) = true := decide_eq_true (by omega)
  have a1 := hb3.trans ((below1 w3 (.cells #[.bool s, .slice A3 m3 c3, .int .i64 E] 37)).mono hb3.size)
  have HS3 := Lib.hid (HS2.out.trans (a1.mono HS2.out.size))
  have HL3 := Lib.hid (HL2.out.below a1)
  have HB3 := Lib.hid (HB2.out.below a1)
  have HC3 := Lib.hid (Bd.new w3 37 s A3 m3 c3 E)
  have H4 := Lib.hid (rto_any s V E A3 m3 c3 es _ (hl3.alloc (.cells #[.bool s, .slice A3 m3 c3, .int .i64 E] 37)) hd3 hv3 (by omega) Hodd.out (by omega) (by omega))
  clear a1 HS2 HL2 HB2 Hw hl3 hd3 hv3 hb3
  go_wp2_with fail
  refine H4.out.mono ?_
  rintro e w4 ⟨A4, m4, c4, z4, rfl, hm4, hl4, hd4, hv4, hb4⟩
  simp only at hv4
  obtain rfl : z4 = [V] := bare_eq hl4.words (Words.one hV9) hd4 (bare_one (by omega)) (hv4.trans (by show V = V + 18446744073709551616 * 0; omega))
  obtain rfl : m4 = 1 := hl4.len.symm
  have a1 := hb4.trans ((below1 w4 (.cells #[.bool s, .slice A4 1 c4, .int .i64 E] 39)).mono hb4.size)
  have HS4 := Lib.hid (HS3.out.trans (a1.mono HS3.out.size))
  have HL4 := Lib.hid (HL3.out.below a1)
  have HB4 := Lib.hid (HB3.out.below a1)
  have HC4 := Lib.hid (HC3.out.below a1)
  have HM4 := Lib.hid (hl4.alloc (.cells #[.bool s, .slice A4 1 c4, .int .i64 E] 39))
  have HE4 := Lib.hid (Bd.new w4 39 s A4 1 c4 E)
  have H5 := Lib.hid (fsame_yes s A2 1 c2 [V] E A4 c4 _ HL4.out HM4.out (by decide))
  have x0 := HB4.out.c0
  have x1 := HB4.out.c1
  have x2 := HB4.out.c2
  clear a1 HS3 HL3 HB3 HC3 hl4 hd4 hv4 hb4 H4 Hodd
  go_wp2_with fail
  refine H5.out.mono ?_
  rintro e w5 ⟨rfl, hb5⟩
  have HS5 := Lib.hid (HS4.out.trans (hb5.mono HS4.out.size))
  have HL5 := Lib.hid (HM4.out.below hb5)
  have HB5 := Lib.hid (HE4.out.below hb5)
  have HC5 := Lib.hid (HC4.out.below hb5)
  have y0 := HC5.out.c0
  have y1 := HC5.out.c1
  have y2 := HC5.out.c2
  have v1 := HB5.out.c1
  have v2 := HB5.out.c2
  have w1' : ∀ o, (w5.alloc o).cell? ⟨w4.heap.size, 1, none⟩ = some (.slice A4 1 c4) := fun o => (HB5.out.alloc o).c1
  clear HS4 HL4 HB4 HC4 HM4 HE4 H5 hb5 x0 x1 x2
  go_wp2_with fail
  have n1 := lim_new1 w5 22 V V rfl hV9
  have a1 := below1 w5 (.cells #[.int .u64 (V : Int)] 22)
  have H8 := Lib.hid (same_yes _ 1 1 [V] A4 c4 _ n1 (HL5.out.below a1) (by decide))
  have HS6 := Lib.hid (HS5.out.trans (a1.mono HS5.out.size))
  clear n1 a1
  refine H8.out.mono ?_
  rintro e w' ⟨rfl, q, rfl⟩
  have v2' : ∀ o, ((w5.alloc o).drewN q).cell? ⟨w4.heap.size, 2, none⟩ = some (.int .i64 E) := fun o => (HB5.out.alloc o).c2
  have HS5 := Lib.hid (below_drewN HS6.out q)
  clear HS6 H8
  go_wp2
  go_ret
  exact ⟨rfl, HS5.out⟩

set_option maxHeartbeats 2000000 in
set_option maxRecDepth 20000 in
theorem ftells_e (b : Nat) (s : Bool) (w : World) (hT : Tab w) (hb : b < 18446744073709551616) (K : Nat) (hK0 : 0 < K) (hK : K ≤ 2) (V : Nat) (hV : 0 < V) (hV9 : V < 18446744073709551616) (HK : Hid (fkd b = K)) (s1 : Hid (fng b = s)) (Hf : Hid (decide (Fnt b) = true)) (hf : Fnt b) (HO : Hid (fO b = ⟨s, V, 0⟩)) (HW : Hid (fwh b = (true, true)))
    (HP : Hid (∀ w, Tab w → Calls Tryd.prog 13 #[.int .u64 (b : Int)] w fun e w' => e = .returned (.tuple #[.int .u64 (V : Int), .int .i64 0, .bool true]) ∧ w = w')) (Hodd : Hid (Odd ⟨s, V, 0⟩)) :
    Calls Tryd.prog 3 #[.int .u64 (b : Int)] w fun e w' => e = .returned (.bool true) ∧ Below w.heap.size w w' := by
  have k1 : decide ((K : Int) ≤ 2) = true := decide_eq_true (by omega)
  have k2 : decide ((2 : Int) < (K : Int)) = false := decide_eq_false (by omega)
  have k3 : ((K : Int) == 0) = false := beq_no (by omega)
  have k4 : decide ((0 : Int) < (K : Int)) = true := decide_eq_true (by omega)
  have HD : Hid (∀ w, Tab w → Calls Tryd.prog 12 #[.int .u64 (b : Int)] w (FTold w ⟨s, V, 0⟩ 1)) := fun w hT => by rw [← HO.out]; exact fdyad_yes b hb w hT hf
  have Hw : Hid (∀ w, Calls Tryd.prog 15 #[.int .u64 (b : Int)] w (NTold w ⟨s, V, 0⟩ 4)) := fun w => by rw [← HO.out]; exact worth_any b hb w
  clear hf HO
  have s2 : decide ((9223372036854775808 : Int) ≤ (b : Int)) = s := by
    rw [← s1.out]; unfold fng
    by_cases h : 9223372036854775808 ≤ b
    · rw [decide_eq_true h]; exact decide_eq_true (by omega)
    · rw [decide_eq_false h]; exact decide_eq_false (by omega)
  have s3 : decide (9223372036854775808 ≤ b) = s := s1.out
  have HT := Lib.hid hT
  clear hT
  go_enter Tryd.func3, Tryd.ntmps3
  go_wp2_with fail
  refine (falive_any w HT.out).mono ?_
  rintro e w1 ⟨rfl, hb1⟩
  have HS1 := Lib.hid hb1
  have HT1 := Lib.hid (HT.out.below hb1)
  clear hb1 HT
  go_wp2_with fail
  refine (rkind_l K b hb w1 HK).mono ?_
  rintro e w' ⟨rfl, rfl⟩
  go_wp2_with fail
  refine (fkind_l K b hb w1 HK).mono ?_
  rintro e w' ⟨rfl, rfl⟩
  go_wp2_with fail
  refine (fneg_l s b hb w1 s1).mono ?_
  rintro e w' ⟨rfl, rfl⟩
  go_wp2_with fail
  refine (ffin_l true b hb w1 Hf).mono ?_
  rintro e w' ⟨rfl, rfl⟩
  go_wp2_with fail
  refine (HD.out w1 HT1.out).mono ?_
  rintro e w2 ⟨A2, m2, c2, z2, rfl, hm2, hl2, hd2, hv2, hb2⟩
  simp only at hv2
  obtain rfl : z2 = [V] := bare_eq hl2.words (Words.one hV9) hd2 (bare_one (by omega)) (hv2.trans (by show V = V + 18446744073709551616 * 0; omega))
  obtain rfl : m2 = 1 := hl2.len.symm
  have a1 := hb2.trans ((below1 w2 (.cells #[.bool s, .slice A2 1 c2, .int .i64 0] 28)).mono hb2.size)
  have HS2 := Lib.hid (HS1.out.trans (a1.mono HS1.out.size))
  have HT2 := Lib.hid (HT1.out.below a1)
  have HL2 := Lib.hid (hl2.alloc (.cells #[.bool s, .slice A2 1 c2, .int .i64 0] 28))
  have HB2 := Lib.hid (Bd.new w2 28 s A2 1 c2 0)
  clear a1 hb2 HS1 HT1 HD hl2 hd2 hv2
  go_wp2_with fail
  refine (HP.out _ HT2.out).mono ?_
  rintro e w' ⟨rfl, rfl⟩
  go_wp2_with fail
  refine (fwhole_l true true b hb _ HT2.out HW).mono ?_
  rintro e w' ⟨rfl, rfl⟩
  clear HP HW HK Hf HT2
  go_wp2_with fail
  refine (Hw.out _).mono ?_
  rintro e w3 ⟨A3, m3, c3, es, rfl, hm3, hl3, hd3, hv3, hb3⟩
  simp only at hv3
  have hm3' : 0 < m3 := by
    rcases Nat.eq_zero_or_pos m3 with h | h
    · exfalso
      have h5 := hl3.len
      rw [h] at h5
      rw [List.eq_nil_of_length_eq_zero h5] at hv3
      have h6 : (0 : Nat) = V := hv3
      omega
    · exact h
  have t1 : decide ((0 : Int) < (m3 : Int)) = true := decide_eq_true (by omega)
  have a1 := hb3.trans ((below1 w3 (.cells #[.bool s, .slice A3 m3 c3, .int .i64 0] 37)).mono hb3.size)
  have HS3 := Lib.hid (HS2.out.trans (a1.mono HS2.out.size))
  have HL3 := Lib.hid (HL2.out.below a1)
  have HB3 := Lib.hid (HB2.out.below a1)
  have HC3 := Lib.hid (Bd.new w3 37 s A3 m3 c3 0)
  have H4 := Lib.hid (rto_any s V 0 A3 m3 c3 es _ (hl3.alloc (.cells #[.bool s, .slice A3 m3 c3, .int .i64 0] 37)) hd3 hv3 (by omega) Hodd.out (by omega) (by omega))
  clear a1 HS2 HL2 HB2 Hw hl3 hd3 hv3 hb3
  go_wp2_with fail
  refine H4.out.mono ?_
  rintro e w4 ⟨A4, m4, c4, z4, rfl, hm4, hl4, hd4, hv4, hb4⟩
  simp only at hv4
  obtain rfl : z4 = [V] := bare_eq hl4.words (Words.one hV9) hd4 (bare_one (by omega)) (hv4.trans (by show V = V + 18446744073709551616 * 0; omega))
  obtain rfl : m4 = 1 := hl4.len.symm
  have a1 := hb4.trans ((below1 w4 (.cells #[.bool s, .slice A4 1 c4, .int .i64 0] 39)).mono hb4.size)
  have HS4 := Lib.hid (HS3.out.trans (a1.mono HS3.out.size))
  have HL4 := Lib.hid (HL3.out.below a1)
  have HB4 := Lib.hid (HB3.out.below a1)
  have HC4 := Lib.hid (HC3.out.below a1)
  have HM4 := Lib.hid (hl4.alloc (.cells #[.bool s, .slice A4 1 c4, .int .i64 0] 39))
  have HE4 := Lib.hid (Bd.new w4 39 s A4 1 c4 0)
  have H5 := Lib.hid (fsame_yes s A2 1 c2 [V] 0 A4 c4 _ HL4.out HM4.out (by decide))
  have x0 := HB4.out.c0
  have x1 := HB4.out.c1
  have x2 := HB4.out.c2
  clear a1 HS3 HL3 HB3 HC3 hl4 hd4 hv4 hb4 H4 Hodd
  go_wp2_with fail
  refine H5.out.mono ?_
  rintro e w5 ⟨rfl, hb5⟩
  have HS5 := Lib.hid (HS4.out.trans (hb5.mono HS4.out.size))
  have HL5 := Lib.hid (HM4.out.below hb5)
  have HB5 := Lib.hid (HE4.out.below hb5)
  have HC5 := Lib.hid (HC4.out.below hb5)
  have y0 := HC5.out.c0
  have y1 := HC5.out.c1
  have y2 := HC5.out.c2
  have v1 := HB5.out.c1
  have v2 := HB5.out.c2
  have w1' : ∀ o, (w5.alloc o).cell? ⟨w4.heap.size, 1, none⟩ = some (.slice A4 1 c4) := fun o => (HB5.out.alloc o).c1
  clear HS4 HL4 HB4 HC4 HM4 HE4 H5 hb5 x0 x1 x2
  go_wp2_with fail
  have n1 := lim_new1 w5 22 V V rfl hV9
  have a1 := below1 w5 (.cells #[.int .u64 (V : Int)] 22)
  have H8 := Lib.hid (same_yes _ 1 1 [V] A4 c4 _ n1 (HL5.out.below a1) (by decide))
  have HS6 := Lib.hid (HS5.out.trans (a1.mono HS5.out.size))
  clear n1 a1
  refine H8.out.mono ?_
  rintro e w' ⟨rfl, q, rfl⟩
  have v2' : ∀ o, ((w5.alloc o).drewN q).cell? ⟨w4.heap.size, 2, none⟩ = some (.int .i64 0) := fun o => (HB5.out.alloc o).c2
  have HS5 := Lib.hid (below_drewN HS6.out q)
  clear HS6 H8
  go_wp2
  go_ret
  exact ⟨rfl, HS5.out⟩

set_option maxHeartbeats 2000000 in
set_option maxRecDepth 20000 in
theorem ftells_g (b : Nat) (s : Bool) (w : World) (hT : Tab w) (hb : b < 18446744073709551616) (K : Nat) (hK0 : 0 < K) (hK : K ≤ 2) (V : Nat) (hV : 0 < V) (hV9 : V < 18446744073709551616) (E : Int) (hE1 : -2000 ≤ E) (hE2 : E ≤ 2000) (hE : 0 < E) (HK : Hid (fkd b = K)) (s1 : Hid (fng b = s)) (Hf : Hid (decide (Fnt b) = true)) (hf : Fnt b) (HO : Hid (fO b = ⟨s, V, E⟩)) (HW : Hid (fwh b = (true, false)))
    (HP : Hid (∀ w, Tab w → Calls Tryd.prog 13 #[.int .u64 (b : Int)] w fun e w' => e = .returned (.tuple #[.int .u64 (V : Int), .int .i64 E, .bool true]) ∧ w = w')) (Hodd : Hid (Odd ⟨s, V, E⟩)) :
    Calls Tryd.prog 3 #[.int .u64 (b : Int)] w fun e w' => e = .returned (.bool true) ∧ Below w.heap.size w w' := by
  have k1 : decide ((K : Int) ≤ 2) = true := decide_eq_true (by omega)
  have k2 : decide ((2 : Int) < (K : Int)) = false := decide_eq_false (by omega)
  have k3 : ((K : Int) == 0) = false := beq_no (by omega)
  have k4 : decide ((0 : Int) < (K : Int)) = true := decide_eq_true (by omega)
  have q1 : decide (0 ≤ E) = true := decide_eq_true (by omega)
  have q2 : (E == 0) = false := beq_no (by omega)
  have HD : Hid (∀ w, Tab w → Calls Tryd.prog 12 #[.int .u64 (b : Int)] w (FTold w ⟨s, V, E⟩ 1)) := fun w hT => by rw [← HO.out]; exact fdyad_yes b hb w hT hf
  have Hw : Hid (∀ w, Calls Tryd.prog 15 #[.int .u64 (b : Int)] w (NTold w ⟨s, V, E⟩ 4)) := fun w => by rw [← HO.out]; exact worth_any b hb w
  clear hf HO
  have s2 : decide ((9223372036854775808 : Int) ≤ (b : Int)) = s := by
    rw [← s1.out]; unfold fng
    by_cases h : 9223372036854775808 ≤ b
    · rw [decide_eq_true h]; exact decide_eq_true (by omega)
    · rw [decide_eq_false h]; exact decide_eq_false (by omega)
  have s3 : decide (9223372036854775808 ≤ b) = s := s1.out
  have HT := Lib.hid hT
  clear hT
  go_enter Tryd.func3, Tryd.ntmps3
  go_wp2_with fail
  refine (falive_any w HT.out).mono ?_
  rintro e w1 ⟨rfl, hb1⟩
  have HS1 := Lib.hid hb1
  have HT1 := Lib.hid (HT.out.below hb1)
  clear hb1 HT
  go_wp2_with fail
  refine (rkind_l K b hb w1 HK).mono ?_
  rintro e w' ⟨rfl, rfl⟩
  go_wp2_with fail
  refine (fkind_l K b hb w1 HK).mono ?_
  rintro e w' ⟨rfl, rfl⟩
  go_wp2_with fail
  refine (fneg_l s b hb w1 s1).mono ?_
  rintro e w' ⟨rfl, rfl⟩
  go_wp2_with fail
  refine (ffin_l true b hb w1 Hf).mono ?_
  rintro e w' ⟨rfl, rfl⟩
  go_wp2_with fail
  refine (HD.out w1 HT1.out).mono ?_
  rintro e w2 ⟨A2, m2, c2, z2, rfl, hm2, hl2, hd2, hv2, hb2⟩
  simp only at hv2
  obtain rfl : z2 = [V] := bare_eq hl2.words (Words.one hV9) hd2 (bare_one (by omega)) (hv2.trans (by show V = V + 18446744073709551616 * 0; omega))
  obtain rfl : m2 = 1 := hl2.len.symm
  have a1 := hb2.trans ((below1 w2 (.cells #[.bool s, .slice A2 1 c2, .int .i64 E] 28)).mono hb2.size)
  have HS2 := Lib.hid (HS1.out.trans (a1.mono HS1.out.size))
  have HT2 := Lib.hid (HT1.out.below a1)
  have HL2 := Lib.hid (hl2.alloc (.cells #[.bool s, .slice A2 1 c2, .int .i64 E] 28))
  have HB2 := Lib.hid (Bd.new w2 28 s A2 1 c2 E)
  clear a1 hb2 HS1 HT1 HD hl2 hd2 hv2
  go_wp2_with fail
  refine (HP.out _ HT2.out).mono ?_
  rintro e w' ⟨rfl, rfl⟩
  go_wp2_with fail
  refine (fwhole_l true false b hb _ HT2.out HW).mono ?_
  rintro e w' ⟨rfl, rfl⟩
  clear HP HW HK Hf HT2
  go_wp2_with fail
  refine (Hw.out _).mono ?_
  rintro e w3 ⟨A3, m3, c3, es, rfl, hm3, hl3, hd3, hv3, hb3⟩
  simp only at hv3
  have hm3' : 0 < m3 := by
    rcases Nat.eq_zero_or_pos m3 with h | h
    · exfalso
      have h5 := hl3.len
      rw [h] at h5
      rw [List.eq_nil_of_length_eq_zero h5] at hv3
      have h6 : (0 : Nat) = V := hv3
      omega
    · exact h
  have t1 : decide ((0 : Int) < (m3 : Int)) = true := decide_eq_true (by omega)
  have a1 := hb3.trans ((below1 w3 (.cells #[.bool s, .slice A3 m3 c3, .int .i64 E] 37)).mono hb3.size)
  have HS3 := Lib.hid (HS2.out.trans (a1.mono HS2.out.size))
  have HL3 := Lib.hid (HL2.out.below a1)
  have HB3 := Lib.hid (HB2.out.below a1)
  have HC3 := Lib.hid (Bd.new w3 37 s A3 m3 c3 E)
  have H4 := Lib.hid (rto_any s V E A3 m3 c3 es _ (hl3.alloc (.cells #[.bool s, .slice A3 m3 c3, .int .i64 E] 37)) hd3 hv3 (by omega) Hodd.out (by omega) (by omega))
  clear a1 HS2 HL2 HB2 Hw hl3 hd3 hv3 hb3
  go_wp2_with fail
  refine H4.out.mono ?_
  rintro e w4 ⟨A4, m4, c4, z4, rfl, hm4, hl4, hd4, hv4, hb4⟩
  simp only at hv4
  obtain rfl : z4 = [V] := bare_eq hl4.words (Words.one hV9) hd4 (bare_one (by omega)) (hv4.trans (by show V = V + 18446744073709551616 * 0; omega))
  obtain rfl : m4 = 1 := hl4.len.symm
  have a1 := hb4.trans ((below1 w4 (.cells #[.bool s, .slice A4 1 c4, .int .i64 E] 39)).mono hb4.size)
  have HS4 := Lib.hid (HS3.out.trans (a1.mono HS3.out.size))
  have HL4 := Lib.hid (HL3.out.below a1)
  have HB4 := Lib.hid (HB3.out.below a1)
  have HC4 := Lib.hid (HC3.out.below a1)
  have HM4 := Lib.hid (hl4.alloc (.cells #[.bool s, .slice A4 1 c4, .int .i64 E] 39))
  have HE4 := Lib.hid (Bd.new w4 39 s A4 1 c4 E)
  have H5 := Lib.hid (fsame_yes s A2 1 c2 [V] E A4 c4 _ HL4.out HM4.out (by decide))
  have x0 := HB4.out.c0
  have x1 := HB4.out.c1
  have x2 := HB4.out.c2
  clear a1 HS3 HL3 HB3 HC3 hl4 hd4 hv4 hb4 H4 Hodd
  go_wp2_with fail
  refine H5.out.mono ?_
  rintro e w5 ⟨rfl, hb5⟩
  have HS5 := Lib.hid (HS4.out.trans (hb5.mono HS4.out.size))
  have HL5 := Lib.hid (HM4.out.below hb5)
  have HB5 := Lib.hid (HE4.out.below hb5)
  have HC5 := Lib.hid (HC4.out.below hb5)
  have y0 := HC5.out.c0
  have y1 := HC5.out.c1
  have y2 := HC5.out.c2
  have v1 := HB5.out.c1
  have v2 := HB5.out.c2
  have w1' : ∀ o, (w5.alloc o).cell? ⟨w4.heap.size, 1, none⟩ = some (.slice A4 1 c4) := fun o => (HB5.out.alloc o).c1
  clear HS4 HL4 HB4 HC4 HM4 HE4 H5 hb5 x0 x1 x2
  go_wp2_with fail
  have n1 := lim_new1 w5 22 V V rfl hV9
  have a1 := below1 w5 (.cells #[.int .u64 (V : Int)] 22)
  have H8 := Lib.hid (same_yes _ 1 1 [V] A4 c4 _ n1 (HL5.out.below a1) (by decide))
  have HS6 := Lib.hid (HS5.out.trans (a1.mono HS5.out.size))
  clear n1 a1
  refine H8.out.mono ?_
  rintro e w' ⟨rfl, q, rfl⟩
  have v2' : ∀ o, ((w5.alloc o).drewN q).cell? ⟨w4.heap.size, 2, none⟩ = some (.int .i64 E) := fun o => (HB5.out.alloc o).c2
  have HS5 := Lib.hid (below_drewN HS6.out q)
  clear HS6 H8
  go_wp2
  go_ret
  exact ⟨rfl, HS5.out⟩

theorem walk_floatTells (b0 : Int) (w : World) (hT : Tab w) (h0 : 0 ≤ b0) (h1 : b0 ≤ 18446744073709551615) :
    Calls Tryd.prog 3 #[.int .u64 b0] w fun e w' => e = .returned (.bool true) ∧ Below w.heap.size w w' := by
  obtain ⟨b, rfl⟩ := Int.eq_ofNat_of_zero_le h0
  have hb : b < 18446744073709551616 := by omega
  have hk := fkd_fin b
  have hz := fkd_zero b
  by_cases hf : Fnt b
  · by_cases hm : fm b = 0
    · exact ftells_z b _ w hT hb (hz.2 hm) rfl (decide_eq_true hf) hf (fO_zero hm) (by show _ = _; rw [fwh, if_pos hm]) (fun w _ => fparts_no b hb w (Or.inl hm)) (Or.inr rfl)
    · have hK := hk.2 hf
      have hK0 : 0 < fkd b := Nat.pos_of_ne_zero fun h => hm (hz.1 h)
      obtain ⟨o1, o2, o3⟩ := fO_pos hf hm
      have hVne : fm b / 2 ^ low (fm b) ≠ 0 := fun h => hm (odd_part_zero.1 h)
      have hVle : fm b / 2 ^ low (fm b) ≤ fm b := Nat.div_le_self _ _
      have hm9 := (f_parts b).2.1
      have hbd := fe_bd hf
      have hl : low (fm b) < 53 := (low_lt_iff (Nat.pos_of_ne_zero hm)).2 (by show fm b % 9007199254740992 ≠ 0; omega)
      have hodd := nO_odd (fng b) (fm b) (fe b)
      change Odd (fO b) at hodd
      obtain ⟨⟨G, V, E⟩, hO⟩ : ∃ d, fO b = d := ⟨_, rfl⟩
      rw [hO] at o1 o2 o3 hodd
      simp only at o1 o2 o3
      subst o1
      have hV : 0 < V := by omega
      have hV9 : V < 18446744073709551616 := by omega
      have hp : ∀ w, Tab w → Calls Tryd.prog 13 #[.int .u64 (b : Int)] w fun e w' => e = .returned (.tuple #[.int .u64 (V : Int), .int .i64 E, .bool true]) ∧ w = w' :=
        fun w hT => fparts_yes V E b hb w hT hm hf (by show _ = _; rw [hO]) (by show _ = _; rw [hO])
      have hw : fwh b = (decide (0 ≤ E), decide (E = 0)) := by rw [fwh, if_neg hm, if_pos hf, hO]
      rcases Int.lt_trichotomy E 0 with h | h | h
      · exact ftells_l b _ w hT hb _ hK0 hK V hV hV9 E (by omega) (by omega) h rfl rfl (decide_eq_true hf) hf hO (by show _ = _; rw [hw, decide_eq_false (by omega), decide_eq_false (by omega)]) hp hodd
      · subst h
        exact ftells_e b _ w hT hb _ hK0 hK V hV hV9 rfl rfl (decide_eq_true hf) hf hO (by show _ = _; rw [hw]; rfl) hp hodd
      · exact ftells_g b _ w hT hb _ hK0 hK V hV hV9 E (by omega) (by omega) h rfl rfl (decide_eq_true hf) hf hO (by show _ = _; rw [hw, decide_eq_true (by omega), decide_eq_false (by omega)]) hp hodd
  · have hm : fm b ≠ 0 := fun h => hf (fin_of_zero h)
    exact ftells_no b _ _ w hT hb rfl (Nat.lt_of_not_le fun h => hf (hk.1 h)) rfl hf hm
end Go.Proofs.YtgkjlfhflndddaaDoor
