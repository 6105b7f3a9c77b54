/- The walks of planimeterref04.Above and planimeterref04.Root: the document's root, bit by bit. -/
import Derived.Test.YtkgbgmhkbigjhaaDoorRMath
import Derived.Test.YtkgbgmhkbigjhaaDoorPPow
import Derived.Test.YtkgbgmhkbigjhaaDoorPRMul
import Derived.Test.YtkgbgmhkbigjhaaDoorWRShr
namespace Go.Proofs.YtkgbgmhkbigjhaaDoor
open Go.RowKit

/-- Cmp of digits, the sign a letter, the world behind it a letter. -/
theorem rcmp_v (v : Int) (A : Option Addr) (n c : Nat) (us : List Nat) (B : Option Addr) (m d : Nat) (bs : List Nat) (w : World) (hA : Dig w A n c us) (hB : Dig w B m d bs) (ba : D.Bare us) (bb : D.Bare bs) (hn : n ≤ 1000000) (hm : m ≤ 1000000) (hv : Hid (cmpZ (D.val us) (D.val bs) = v)) :
    Calls Tryd.prog 12 #[.slice A n c, .slice B m d] w fun e w' => e = .returned (.int .i64 v) ∧ Below w.heap.size w w' := by
  rw [← hv.out]
  refine (rcmp_any A n c us B m d bs w hA hB ba bb hn hm).mono ?_
  rintro e w' ⟨rfl, q, rfl⟩
  exact ⟨rfl, below_drewN (Below.refl _ _) q⟩
theorem dlen_of_le {w w' : World} {A B : Option Addr} {n c m d : Nat} {us bs : List Nat} (hA : Dig w A n c us) (hB : Dig w' B m d bs) (hb : D.Bare bs) (h : D.val bs ≤ D.val us) : m ≤ n := by
  have h1 := D.val_lt hA.words
  have h2 := D.len_of_lt hb (Nat.lt_of_le_of_lt h h1)
  rw [hA.len, hB.len] at h2
  exact h2
theorem dlen_two {w : World} {A : Option Addr} {n c : Nat} {us : List Nat} {i M : Nat} (hA : Dig w A n c us) (hb : D.Bare us) (h : D.val us = 2 ^ i) (hi : i < 16 * M) : n ≤ M := by
  have h2 := D.len_of_lt (M := M) hb (by rw [h, D.pw_two]; exact Nat.pow_lt_pow_right (by decide) hi)
  rw [hA.len] at h2
  exact h2

set_option maxHeartbeats 2000000 in
theorem rabove_any (bb : Bool) (k : Nat) (A : Option Addr) (n c : Nat) (us : List Nat) (B : Option Addr) (m d : Nat) (bs : List Nat) (w : World) (hA : Dig w A n c us) (hB : Dig w B m d bs) (ba : D.Bare us) (bB : D.Bare bs) (hn : n ≤ 1000) (hm : m ≤ 1000) (hk1 : 1 ≤ k) (hk : k ≤ 9223372036854775807) (hX : 1 ≤ D.val us) (hbb : Hid (decide (D.val bs < D.val us ^ k) = bb)) :
    Calls Tryd.prog 27 #[.slice A n c, .int .i64 (k : Int), .slice B m d] w fun e w' => e = .returned (.bool bb) ∧ Below w.heap.size w w' := by
  have hn0 : n ≠ 0 := by
    intro h
    have := hA.len
    rw [h] at this
    rw [List.eq_nil_of_length_eq_zero this] at hX
    exact absurd hX (by decide)
  have b0 : ((n : Int) == 0) = false := beq_eq_false_iff_ne.2 (by omega)
  obtain ⟨X, hXe⟩ : ∃ X, D.val us = X := ⟨_, rfl⟩
  obtain ⟨V, hVe⟩ : ∃ V, D.val bs = V := ⟨_, rfl⟩
  rw [hXe] at hX hbb
  rw [hVe] at hbb
  have HX := Lib.hid hXe
  have HV := Lib.hid hVe
  have HA := Lib.hid hA
  have HB := Lib.hid hB
  have Hba := Lib.hid ba
  have HbB := Lib.hid bB
  have HN := Lib.hid (num_any 1 (by decide) w)
  clear hA hB ba bB hXe hVe hn0
  go_enter Tryd.func27, Tryd.ntmps27
  go_wp2_with fail
  refine HN.out.mono ?_
  rintro e w1 ⟨A1, m1, c1, es, rfl, h1, h2, h3, h4, h5⟩
  have Hs : Hid (Dig w1 A1 m1 c1 es ∧ D.Bare es ∧ D.val es = 1 ∧ Below w.heap.size w w1) := ⟨h2, h3, h4, h5⟩
  clear h2 h3 h4 h5 HN
  by_cases hX1 : X = 1
  · obtain ⟨f1, f2, f3, f4⟩ := Hs.out
    have Hc := Lib.hid (rcmp_v 0 A n c us A1 m1 c1 es w1 (HA.out.below f4) f1 Hba.out f2 (by omega) (by omega) (cmpZ_eq (by rw [HX.out, hX1, f3])))
    clear f1 f2 f3 f4
    go_wp2_with fail
    refine Hc.out.mono ?_
    rintro e w2 ⟨rfl, hb2⟩
    obtain ⟨f1, f2, f3, f4⟩ := Hs.out
    have f5 := f4.trans (hb2.mono f4.size)
    obtain ⟨v, hv, hor⟩ : ∃ v, cmpZ 1 V = v ∧ (v = 1 ∧ bb = true ∨ v ≤ 0 ∧ bb = false) := by
      refine ⟨_, rfl, ?_⟩
      rw [← hbb.out, hX1, Nat.one_pow]
      by_cases h : V < 1
      · exact Or.inl ⟨cmpZ_gt h, decide_eq_true h⟩
      · exact Or.inr ⟨le_cmpZ (by omega), decide_eq_false h⟩
    have Hc2 := Lib.hid (rcmp_v v A1 m1 c1 es B m d bs w2 (f1.below hb2) (HB.out.below f5) f2 HbB.out (by omega) (by omega) (by rw [f3, HV.out]; exact hv))
    have Hf5 := Lib.hid f5
    clear f1 f2 f3 f4 f5 hb2 Hc Hs hv hbb
    rcases hor with ⟨rfl, rfl⟩ | ⟨hv0, rfl⟩
    · go_wp2_with fail
      refine Hc2.out.mono ?_
      rintro e w3 ⟨rfl, hb3⟩
      have Hfin := Lib.hid (Hf5.out.trans (hb3.mono Hf5.out.size))
      clear hb3
      go_wp2
      go_ret
      exact ⟨rfl, Hfin.out⟩
    · have d1 : decide (0 < v) = false := by simp; exact hv0
      go_wp2_with fail
      refine Hc2.out.mono ?_
      rintro e w3 ⟨rfl, hb3⟩
      have Hfin := Lib.hid (Hf5.out.trans (hb3.mono Hf5.out.size))
      clear hb3
      go_wp2
      go_ret
      exact ⟨rfl, Hfin.out⟩
  · obtain ⟨f1, f2, f3, f4⟩ := Hs.out
    have Hc := Lib.hid (rcmp_v 1 A n c us A1 m1 c1 es w1 (HA.out.below f4) f1 Hba.out f2 (by omega) (by omega) (cmpZ_gt (by rw [HX.out, f3]; omega)))
    clear f1 f2 f3 f4
    go_wp2_with fail
    refine Hc.out.mono ?_
    rintro e w2 ⟨rfl, hb2⟩
    obtain ⟨f1, f2, f3, f4⟩ := Hs.out
    have Hs2 : Hid (Dig w2 A1 m1 c1 es ∧ D.Bare es ∧ D.val es = X ^ 0 ∧ Below w.heap.size w w2) := ⟨f1.below hb2, f2, by rw [Nat.pow_zero]; exact f3, f4.trans (hb2.mono f4.size)⟩
    clear f1 f2 f3 f4 hb2 Hc Hs
    go_wp2_with fail
    go_loopw [7, 8] (fun s7 s8 wr => ∃ (j m2 c2 : Nat) (A2 : Option Addr) (fs : List Nat), j ≤ k ∧ s8 = .int .i64 j ∧ s7 = .slice A2 m2 c2 ∧ m2 ≤ 1000 ∧ Hid (Dig wr A2 m2 c2 fs ∧ D.Bare fs ∧ D.val fs = X ^ j ∧ (j = 0 ∨ X ^ j ≤ V) ∧ Below w.heap.size w wr)) (fun _ s8 _ => k - (intOf s8).toNat)
    case atStart => exact ⟨0, m1, c1, A1, es, Nat.zero_le _, rfl, rfl, by omega, Hs2.out.1, Hs2.out.2.1, Hs2.out.2.2.1, Or.inl rfl, Hs2.out.2.2.2⟩
    case round =>
      clear Hs2
      obtain ⟨w3, rfl⟩ : ∃ w3, w3 = wr := ⟨_, rfl⟩
      obtain ⟨j, m2, c2, A2, fs, hj, rfl, rfl, hm2, H2⟩ := hrel
      obtain ⟨f1, f2, f3, f4, f5⟩ := H2.out
      by_cases hjk : j < k
      · have hR := rmul_any A2 m2 c2 fs A n c us w3 f1 (HA.out.below f5) (by omega) (by omega)
        rw [f3, HX.out, ← Nat.pow_succ] at hR
        have HR := Lib.hid hR
        have Hf5 := Lib.hid f5
        clear hR f1 f2 f3 f4 f5 H2
        go_wp2_with fail
        refine HR.out.mono ?_
        rintro e w4 ⟨A3, m3, c3, gs, rfl, g1, g2, g3, g4, g5⟩
        have g6 := Hf5.out.trans (g5.mono Hf5.out.size)
        obtain ⟨v, hv⟩ : ∃ v, cmpZ (X ^ (j + 1)) V = v := ⟨_, rfl⟩
        have Hc := Lib.hid (rcmp_v v A3 m3 c3 gs B m d bs w4 g2 (HB.out.below g6) g3 HbB.out (by omega) (by omega) (by rw [g4, HV.out]; exact hv))
        by_cases hab : V < X ^ (j + 1)
        · have hv1 : v = 1 := by rw [← hv]; exact cmpZ_gt hab
          have hbt : bb = true := by
            rw [← hbb.out]
            exact decide_eq_true (Nat.lt_of_lt_of_le hab (Nat.pow_le_pow_right hX (by omega)))
          subst hv1
          subst hbt
          have Hg6 := Lib.hid g6
          clear g2 g3 g4 g5 g6 HR Hf5 hv hab
          go_wp2_with fail
          refine Hc.out.mono ?_
          rintro e w5 ⟨rfl, hb5⟩
          have Hfin := Lib.hid (Hg6.out.trans (hb5.mono Hg6.out.size))
          clear hb5
          go_wp2
          go_ret
          exact ⟨rfl, Hfin.out⟩
        · have hv0 : v ≤ 0 := by rw [← hv]; exact le_cmpZ (Nat.not_lt.1 hab)
          have d1 : decide (0 < v) = false := by simp; exact hv0
          have hm3 : m3 ≤ 1000 := Nat.le_trans (dlen_of_le HB.out g2 g3 (by rw [g4, HV.out]; exact Nat.not_lt.1 hab)) hm
          have H4 : Hid (∀ w', Below w4.heap.size w4 w' → Dig w' A3 m3 c3 gs ∧ D.Bare gs ∧ D.val gs = X ^ (j + 1) ∧ (j + 1 = 0 ∨ X ^ (j + 1) ≤ V) ∧ Below w.heap.size w w') :=
            fun w' hb' => ⟨g2.below hb', g3, g4, Or.inr (Nat.not_lt.1 hab), g6.trans (hb'.mono g6.size)⟩
          clear g2 g3 g4 g5 g6 HR Hf5 hv hab g1
          go_wp2_with fail
          refine Hc.out.mono ?_
          rintro e w5 ⟨rfl, hb5⟩
          have H5 := Lib.hid (H4.out w5 hb5)
          clear hb5 H4
          go_wp2
          go_roundw
          case rel => exact ⟨j + 1, m3, c3, A3, gs, by omega, by go_num, rfl, hm3, H5⟩
          case measure => simp [intOf]; omega
      · obtain rfl : j = k := by omega
        have hbf : bb = false := by
          rw [← hbb.out]
          exact decide_eq_false (by omega)
        subst hbf
        have Hf5 := Lib.hid f5
        clear f1 f2 f3 f4 f5 H2 hbb
        go_wp2
        go_ret
        exact ⟨rfl, Hf5.out⟩

/-- One bit of the root more. -/
theorem root_bit {R i x : Nat} (hx : x = R / 2 ^ (i + 1) * 2 ^ (i + 1)) : (x + 2 ^ i ≤ R → x + 2 ^ i = R / 2 ^ i * 2 ^ i) ∧ (¬ x + 2 ^ i ≤ R → x = R / 2 ^ i * 2 ^ i) := by
  have h1 := half_bit R i
  have hp := Nat.two_pow_pos i
  have e1 : x = 2 * (R / 2 ^ (i + 1)) * 2 ^ i := by rw [hx, Nat.pow_succ]; ac_rfl
  have e2 : x + 2 ^ i = (2 * (R / 2 ^ (i + 1)) + 1) * 2 ^ i := by rw [e1, Nat.add_mul, Nat.one_mul]
  have hv : R / 2 ^ i % 2 = 0 ∨ R / 2 ^ i % 2 = 1 := by omega
  have hiff : x + 2 ^ i ≤ R ↔ 2 * (R / 2 ^ (i + 1)) + 1 ≤ R / 2 ^ i := by
    rw [e2]; exact (Nat.le_div_iff_mul_le hp).symm
  refine ⟨fun h => ?_, fun h => ?_⟩
  · have h2 := hiff.1 h
    rw [e2]
    congr 1
    omega
  · have h2 : ¬ 2 * (R / 2 ^ (i + 1)) + 1 ≤ R / 2 ^ i := fun h3 => h (hiff.2 h3)
    rw [e1]
    congr 1
    omega

set_option maxHeartbeats 2000000 in
theorem rroot_any (k : Nat) (A : Option Addr) (n c : Nat) (us : List Nat) (w : World) (hA : Dig w A n c us) (ba : D.Bare us) (hn : n ≤ 249) (hk1 : 1 ≤ k) (hk : k ≤ 9223372036854775807) :
    Calls Tryd.prog 11 #[.slice A n c, .int .i64 (k : Int)] w (DTells w (rt k (D.val us)) n) := by
  obtain ⟨V, hVe⟩ : ∃ V, D.val us = V := ⟨_, rfl⟩
  obtain ⟨bl, hbl⟩ : ∃ bl, blen (D.val us) = bl := ⟨_, rfl⟩
  have hblb : bl ≤ 16 * n := by
    rw [← hbl]; apply blen_le_iff.2
    rw [← D.pw_two]; have := D.val_lt hA.words; rwa [hA.len] at this
  have Hbits := Lib.hid (rbits_any A n c us w hA ba (by omega))
  rw [hbl] at Hbits
  obtain ⟨q, hq⟩ : ∃ q, bl / k = q := ⟨_, rfl⟩
  have hqb : q ≤ bl := by rw [← hq]; exact Nat.div_le_self _ _
  have e1 : (bl : Int) / (k : Int) = (q : Int) := by rw [← hq]; exact (Int.natCast_ediv bl k).symm
  have hk0 : (k : Int) ≠ 0 := by omega
  rw [hVe]
  rw [hVe] at hbl
  obtain ⟨R, hR⟩ : ∃ R, rt k V = R := ⟨_, rfl⟩
  have hRq : R < 2 ^ (q + 1) := by
    rw [← hR]
    apply (rt_lt_iff hk1).2
    rw [← Nat.pow_mul]
    apply blen_le_iff.1
    have := Nat.lt_div_mul_add (a := bl) hk1
    rw [hq] at this
    rw [hbl, Nat.add_mul, Nat.one_mul]
    omega
  have Hst : Hid (0 = R / 2 ^ (q + 1) * 2 ^ (q + 1)) := by rw [Nat.div_eq_of_lt hRq, Nat.zero_mul]; exact rfl
  have HRle : Hid (R ≤ V) := by rw [← hR]; exact rt_self_le hk1
  have HRiff : Hid (∀ y, V < y ^ k ↔ ¬ y ≤ R) := fun y => by
    rw [← hR, le_rt_iff hk1]; omega
  rw [hR]
  have HVe := Lib.hid hVe
  have HA := Lib.hid hA
  have Hba := Lib.hid ba
  clear hA ba hbl hq hVe hR hRq
  go_enter Tryd.func11, Tryd.ntmps11
  go_wp2_with fail
  refine Hbits.out.mono ?_
  rintro e w' ⟨rfl, rfl⟩
  go_wp2_with fail
  go_loopw [5, 6] (fun s5 s6 wr => ∃ (j m1 c1 : Nat) (A1 : Option Addr) (xs : List Nat), j ≤ q + 1 ∧ s6 = .int .i64 ((j : Int) - 1) ∧ s5 = .slice A1 m1 c1 ∧ m1 ≤ n ∧ Hid (Dig wr A1 m1 c1 xs ∧ D.Bare xs ∧ D.val xs = R / 2 ^ j * 2 ^ j ∧ Below w.heap.size w wr)) (fun _ s6 _ => (intOf s6 + 1).toNat)
  case atStart => exact ⟨q + 1, 0, 0, none, [], Nat.le_refl _, by go_num, rfl, Nat.zero_le _, Dig.nil _ _ _, rfl, Hst.out, Below.refl _ _⟩
  case round =>
    obtain ⟨w1, rfl⟩ : ∃ w1, w1 = wr := ⟨_, rfl⟩
    obtain ⟨j, m1, c1, A1, xs, hj, rfl, rfl, hm1, H1⟩ := hrel
    by_cases hj0 : 0 < j
    · obtain ⟨i, rfl⟩ : ∃ i, j = i + 1 := ⟨j - 1, by omega⟩
      have e2 : ((i + 1 : Nat) : Int) - 1 = (i : Int) := by omega
      rw [e2]
      clear e2 hj0
      have HN := Lib.hid (num_any 1 (by decide) w1)
      go_wp2_with fail
      refine HN.out.mono ?_
      rintro e w2 ⟨A2, m2, c2, os, rfl, hm2, hl2, hb2, hv2, hB2⟩
      have hsh := rshl_any A2 m2 c2 os i w2 hl2 hb2 (by omega) (by omega)
      rw [hv2, Nat.one_mul] at hsh
      have Hsh := Lib.hid hsh
      have HB2 := Lib.hid hB2
      clear hl2 hb2 hv2 hB2 HN hsh
      go_wp2_with fail
      refine Hsh.out.mono ?_
      rintro e w3 ⟨A3, m3, c3, ps, rfl, _, hl3, hb3, hv3, hB3⟩
      have hm3 : m3 ≤ 250 := dlen_two hl3 hb3 hv3 (by omega)
      obtain ⟨f1, f2, f3, f4⟩ := H1.out
      have hB13 := HB2.out.trans (hB3.mono HB2.out.size)
      have hB03 := f4.trans (hB13.mono f4.size)
      have had := radd_any A1 m1 c1 xs A3 m3 c3 ps w3 (f1.below hB13) hl3 f2 hb3 (by omega) (by omega)
      rw [hv3] at had
      have Had := Lib.hid had
      have HB03 := Lib.hid hB03
      have Hbit := Lib.hid (root_bit (R := R) (i := i) (x := D.val xs) f3)
      have HB13 := Lib.hid hB13
      clear f1 f2 f3 f4 hl3 hb3 hv3 hB3 had hB13 hB03 Hsh HB2
      go_wp2_with fail
      refine Had.out.mono ?_
      rintro e w4 ⟨A4, m4, c4, ys, rfl, hm4, hl4, hb4, hv4, hB4⟩
      have hB04 := HB03.out.trans (hB4.mono HB03.out.size)
      obtain ⟨bb, hbb⟩ : ∃ bb, decide (V < D.val ys ^ k) = bb := ⟨_, rfl⟩
      have Hab := Lib.hid (rabove_any bb k A4 m4 c4 ys A n c us w4 hl4 (HA.out.below hB04) hb4 Hba.out (by omega) (by omega) hk1 hk (by rw [hv4]; have := Nat.two_pow_pos i; omega) (by rw [HVe.out]; exact hbb))
      cases bb with
      | false =>
        have hle : D.val ys ≤ R := by
          rcases Nat.lt_or_ge R (D.val ys) with h | h
          · exact absurd ((HRiff.out _).2 (by omega)) (of_decide_eq_false hbb)
          · exact h
        have H5 : Hid (∀ w', Below w4.heap.size w4 w' → Dig w' A4 m4 c4 ys ∧ D.Bare ys ∧ D.val ys = R / 2 ^ i * 2 ^ i ∧ Below w.heap.size w w') :=
          fun w' hb' => ⟨hl4.below hb', hb4, by rw [hv4]; exact Hbit.out.1 (by rw [← hv4]; exact hle), hB04.trans (hb'.mono hB04.size)⟩
        have hm4' : m4 ≤ n := dlen_of_le HA.out hl4 hb4 (by rw [HVe.out]; exact Nat.le_trans hle HRle.out)
        clear hl4 hb4 hv4 hB4 hB04 hbb hle Had HB03 HB13 Hbit H1 hm4
        go_wp2_with fail
        refine Hab.out.mono ?_
        rintro e w5 ⟨rfl, hb5⟩
        have H6 := Lib.hid (H5.out w5 hb5)
        clear hb5 H5 Hab
        go_wp2
        go_roundw
        case rel => exact ⟨i, m4, c4, A4, ys, by omega, by go_num, rfl, hm4', H6⟩
        case measure => simp [intOf]
      | true =>
        have hgt : ¬ D.val ys ≤ R := (HRiff.out _).1 (of_decide_eq_true hbb)
        obtain ⟨f1, f2, f3, f4⟩ := H1.out
        have hB14 := HB13.out.trans (hB4.mono HB13.out.size)
        have H5 : Hid (∀ w', Below w4.heap.size w4 w' → Dig w' A1 m1 c1 xs ∧ D.Bare xs ∧ D.val xs = R / 2 ^ i * 2 ^ i ∧ Below w.heap.size w w') :=
          fun w' hb' => ⟨(f1.below hB14).below hb', f2, Hbit.out.2 (by rw [← hv4]; exact hgt), hB04.trans (hb'.mono hB04.size)⟩
        clear f1 f2 f3 f4 hl4 hb4 hv4 hB4 hB04 hB14 hbb hgt Had HB03 HB13 Hbit H1 hm4
        go_wp2_with fail
        refine Hab.out.mono ?_
        rintro e w5 ⟨rfl, hb5⟩
        have H6 := Lib.hid (H5.out w5 hb5)
        clear hb5 H5 Hab
        go_wp2
        go_roundw
        case rel => exact ⟨i, m1, c1, A1, xs, by omega, by go_num, rfl, hm1, H6⟩
        case measure => simp [intOf]
    · obtain rfl : j = 0 := by omega
      obtain ⟨f1, f2, f3, f4⟩ := H1.out
      have Hfin : Hid (DTells w R n (.returned (.slice A1 m1 c1)) w1) := ⟨A1, m1, c1, xs, rfl, hm1, f1, f2, by rw [f3, Nat.pow_zero, Nat.div_one, Nat.mul_one], f4⟩
      clear f1 f2 f3 f4 H1
      go_wp2
      go_ret
      exact Hfin.out
end Go.Proofs.YtkgbgmhkbigjhaaDoor
