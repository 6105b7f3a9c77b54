/- The document's Exp of layer 12: the loops. -/
import Derived.Test.YtngldpmnbdgkiaaDoorSrRefW
namespace Go.Proofs.YtngldpmnbdgkiaaDoor
open Go.RowKit

theorem de_bd {P a : Nat} (hP : 0 < P) (ha : a ≤ P) : ∀ c n, 2 ≤ n → de P a c n ≤ 2 * P := by
  intro c
  induction c with
  | zero => intro n _; show P ≤ 2 * P; omega
  | succ c ih =>
    intro n hn
    have h := ih (n + 1) (by omega)
    rw [de]
    have h1 : de P a c (n + 1) * a / P ≤ 2 * P := by
      have h2 : de P a c (n + 1) * a ≤ 2 * P * P := Nat.mul_le_mul h ha
      have := Nat.div_le_div_right (c := P) h2
      rw [Nat.mul_div_cancel _ hP] at this
      exact this
    have h3 : de P a c (n + 1) * a / P / n ≤ 2 * P / 2 := Nat.le_trans (Nat.div_le_div_left hn (by decide)) (Nat.div_le_div_right h1)
    omega
theorem de_bd1 {P a : Nat} (hP : 0 < P) (ha : a ≤ P) : ∀ c n, 1 ≤ n → de P a c n ≤ 3 * P := by
  intro c n hn
  cases c with
  | zero => show P ≤ 3 * P; omega
  | succ c =>
    have h := de_bd hP ha c (n + 1) (by omega)
    rw [de]
    have h1 : de P a c (n + 1) * a / P ≤ 2 * P := by
      have h2 : de P a c (n + 1) * a ≤ 2 * P * P := Nat.mul_le_mul h ha
      have := Nat.div_le_div_right (c := P) h2
      rw [Nat.mul_div_cancel _ hP] at this
      exact this
    have h3 : de P a c (n + 1) * a / P / n ≤ de P a c (n + 1) * a / P := Nat.div_le_self _ _
    omega

set_option maxHeartbeats 4000000 in
theorem rexp_l (s : Nat) (A : Option Addr) (n c : Nat) (us : List Nat) (w : World) (hA : Dig w A n c us) (ba : D.Bare us) (hn : n ≤ 300) (hs : s ≤ 700) (h1 : D.val us ≤ 2 ^ s) :
    Calls Tryd.prog 21 #[.slice A n c, .int .i64 (s : Int)] w fun e w' => ∃ K, 2 ^ s ≤ fac K ∧ DTells w (de (2 ^ s) (D.val us) K 1) 50 e w' := by
  obtain ⟨P, hP⟩ : ∃ P, 2 ^ s = P := ⟨_, rfl⟩
  obtain ⟨a, ha⟩ : ∃ a, D.val us = a := ⟨_, rfl⟩
  have hP0 : 0 < P := by rw [← hP]; exact Nat.two_pow_pos s
  rw [ha, hP] at h1
  rw [ha, hP]
  have HD : Hid (∀ c n, 1 ≤ n → de P a c n ≤ 3 * P) := de_bd1 hP0 h1
  have HP := Lib.hid hP
  have HP0 := Lib.hid hP0
  have Ha := Lib.hid ha
  have HA := Lib.hid hA
  have Hba := Lib.hid ba
  have Hle := Lib.hid h1
  have H1 := Lib.hid (num_any 1 (by decide) w)
  clear hA ba h1 ha hP hP0
  go_enter Tryd.func21, Tryd.ntmps21
  go_wp2_with fail
  refine H1.out.mono ?_
  rintro e w1 ⟨A1, m1, c1, es, rfl, hm1, hl1, hb1, hv1, hB1⟩
  have H2 := rshl_any A1 m1 c1 es s w1 hl1 hb1 (by omega) (by omega)
  rw [hv1, HP.out, Nat.one_mul] at H2
  replace H2 := Lib.hid H2
  have HS := Lib.hid hB1
  clear hl1 hb1 hv1 hB1 H1
  go_wp2_with fail
  refine H2.out.mono ?_
  rintro e w2 ⟨A2, m2, c2, ps, rfl, hm2, hl2, hb2, hv2, hB2⟩
  have hm45 : m2 ≤ 45 := dlen45 hl2 hb2 hv2 (by rw [HP.out]; omega) hs
  replace HS := Lib.hid (HS.out.trans (hB2.mono HS.out.size))
  have HO : Hid (Dig w2 A2 m2 c2 ps ∧ D.Bare ps ∧ D.val ps = P) := ⟨hl2, hb2, hv2⟩
  obtain ⟨SB, hSB⟩ : ∃ SB, s + 8 = SB := ⟨_, rfl⟩
  have eSB : (s : Int) + 8 = (SB : Int) := by omega
  clear hl2 hb2 hv2 hB2 H2 hm2
  go_wp2_with fail
  go_loopw [6, 7] (fun n1 b1 wr => ∃ k b : Nat, n1 = .int .i64 (k : Int) ∧ b1 = .int .i64 (b : Int) ∧ 1 ≤ k ∧ k ≤ b + 1 ∧ k ≤ SB + 1 ∧ b ≤ SB + 100 ∧ Hid (2 ^ b ≤ fac k) ∧ Hid (Below w2.heap.size w2 wr)) (fun _ b1 _ => SB - (intOf b1).toNat)
  case atStart => exact ⟨1, 0, rfl, rfl, by decide, by decide, by omega, by omega, (by show 2 ^ 0 ≤ fac 1; decide), Below.refl _ _⟩
  case round =>
    obtain ⟨w3, rfl⟩ : ∃ w3, w3 = wr := ⟨_, rfl⟩
    obtain ⟨k, b, rfl, rfl, hk1, hkb, hks, hbs, HF, HS3⟩ := hrel
    have hSB9 : SB < 1000 := by omega
    by_cases hlt : b < SB
    · have t1 : decide (b < SB) = true := decide_eq_true hlt
      have t2 : decide ((b : Int) < (SB : Int)) = true := decide_eq_true (by omega)
      obtain ⟨k1, hk⟩ : ∃ k1, k + 1 = k1 := ⟨_, rfl⟩
      have ek : (k : Int) + 1 = (k1 : Int) := by omega
      have hk9 : k1 < 2000 := by omega
      obtain ⟨l, hl⟩ : ∃ l, blen k1 = l := ⟨_, rfl⟩
      have hl1 : 2 ≤ l := by
        rw [← hl]
        refine Nat.le_of_not_lt fun h => ?_
        have : k1 < 2 ^ 1 := blen_le_iff.1 (by omega)
        omega
      have hl2 : l ≤ 11 := by rw [← hl]; exact blen_le_iff.2 (by omega)
      have HF2 : Hid (2 ^ (b + (l - 1)) ≤ fac k1) := by
        have := fac_bits HF.out
        rw [hk, hl] at this
        exact this
      have H3 := Lib.hid (num_any k1 (by omega) w3)
      have Hl := Lib.hid hl
      obtain ⟨bl, hbl⟩ : ∃ bl, b + l = bl := ⟨_, rfl⟩
      have ebl : (b : Int) + (l : Int) = (bl : Int) := by omega
      obtain ⟨b2, hb2⟩ : ∃ b2, b + (l - 1) = b2 := ⟨_, rfl⟩
      have eb2 : (bl : Int) - 1 = (b2 : Int) := by omega
      rw [hb2] at HF2
      have hb29 : b2 ≤ SB + 100 := by omega
      have hbb : b < b2 := by omega
      have hkk : k1 ≤ b2 + 1 := by omega
      have hks2 : k1 ≤ SB + 1 := by omega
      clear hl HF hSB hk hkb hks hbs hbl hb2
      go_wp2_with fail
      refine H3.out.mono ?_
      rintro e w4 ⟨A4, m4, c4, es, rfl, hm4, hl4, hb4, hv4, hB4⟩
      have H4 := rbits_any A4 m4 c4 es w4 hl4 hb4 (by omega)
      rw [hv4, Hl.out] at H4
      replace H4 := Lib.hid H4
      replace HS3 := Lib.hid (HS3.out.trans (hB4.mono HS3.out.size))
      clear hl4 hb4 hv4 hB4 H3
      go_wp2_with fail
      refine H4.out.mono ?_
      rintro e w' ⟨rfl, rfl⟩
      go_wp2
      go_roundw
      case rel => exact ⟨k1, b2, rfl, by first | rfl | (rw [eb2]), by omega, hkk, hks2, hb29, HF2, HS3⟩
      case measure => simp [intOf]; omega
    · have t1 : decide (b < SB) = false := decide_eq_false hlt
      have t2 : decide ((b : Int) < (SB : Int)) = false := decide_eq_false (by omega)
      have HK : Hid (2 ^ s ≤ fac k) := Nat.le_trans (Nat.pow_le_pow_right (by decide) (by omega)) HF.out
      have hk9 : k < 2000 := by omega
      clear HF hSB hkb hks hbs hlt
      go_wp2_with fail
      go_loopw [6, 8] (fun n1 sm wr => ∃ (j : Nat) (A6 : Option Addr) (m6 c6 : Nat) (ss : List Nat), j ≤ k ∧ n1 = .int .i64 (j : Int) ∧ sm = .slice A6 m6 c6 ∧ m6 ≤ 45 ∧ Hid (Dig wr A6 m6 c6 ss) ∧ Hid (D.Bare ss) ∧ Hid (D.val ss = de P a (k - j) (j + 1)) ∧ Hid (Below w2.heap.size w2 wr)) (fun n1 _ _ => (intOf n1).toNat)
      case atStart => exact ⟨k, A2, m2, c2, ps, Nat.le_refl _, rfl, rfl, hm45, HO.out.1.below HS3.out, HO.out.2.1, by show _ = _; rw [Nat.sub_self]; exact HO.out.2.2, HS3⟩
      case round =>
        obtain ⟨w4, rfl⟩ : ∃ w4, w4 = wr := ⟨_, rfl⟩
        obtain ⟨j, A6, m6, c6, ss, hj, rfl, rfl, hm6, HL6, HB6, HV6, HS6⟩ := hrel
        by_cases hj0 : j = 0
        · subst hj0
          rw [Nat.sub_zero, Nat.zero_add] at HV6
          have Hfin : Hid (∃ K, 2 ^ s ≤ fac K ∧ DTells w (de P a K 1) 50 (.returned (.slice A6 m6 c6)) w4) := ⟨k, HK.out, A6, m6, c6, ss, rfl, by omega, HL6.out, HB6.out, HV6.out, HS.out.trans (HS6.out.mono HS.out.size)⟩
          rw [HP.out] at Hfin
          clear HL6 HB6 HV6 HS6 HD HA Hba Ha Hle HO HS HS3
          go_wp2
          go_ret
          exact Hfin.out
        · obtain ⟨i, rfl⟩ : ∃ i, j = i + 1 := ⟨j - 1, by omega⟩
          obtain ⟨J, hJ⟩ : ∃ J, i + 1 = J := ⟨_, rfl⟩
          have b1 : decide ((1 : Int) ≤ (J : Int)) = true := decide_eq_true (by omega)
          have b2 : decide (1 ≤ J) = true := decide_eq_true (by omega)
          have e1 : (J : Int) - 1 = (i : Int) := by omega
          have hJ9 : J < 2000 := by omega
          have hJ1 : 1 ≤ J := by omega
          rw [hJ] at HV6 hj ⊢
          have HJ := Lib.hid hJ
          have H1 := rmul_any A6 m6 c6 ss A n c us w4 HL6.out (HA.out.below (HS.out.trans (HS6.out.mono HS.out.size))) (by omega) (by omega)
          rw [HV6.out, Ha.out] at H1
          replace H1 := Lib.hid H1
          clear hj0 hJ HL6 HB6
          go_wp2_with fail
          refine H1.out.mono ?_
          rintro e w5 ⟨A7, m7, c7, es, rfl, hm7, hl7, hb7, hv7, hB7⟩
          have hbd2 : de P a (k - J) (J + 1) * a / P ≤ 4 * P := div_small HP0.out (by have := HD.out (k - J) (J + 1) (by omega); omega) Hle.out
          have H2 := rshift_l _ s 45 A7 m7 c7 es w5 hl7 hb7 hv7 (by omega) (by omega) (s + 3) (by
            rw [HP.out]
            rw [Nat.pow_add, HP.out]
            have := HP0.out
            omega) (by omega)
          rw [HP.out] at H2
          replace H2 := Lib.hid H2
          replace HS6 := Lib.hid (HS6.out.trans (hB7.mono HS6.out.size))
          clear hl7 hb7 hv7 hB7 H1 hbd2 hm7
          go_wp2_with fail
          refine H2.out.mono ?_
          rintro e w6 ⟨A8, m8, c8, qs, rfl, hm8, hl8, hb8, hv8, hB8⟩
          have H3 := Lib.hid (num_any J (by omega) w6)
          replace HS6 := Lib.hid (HS6.out.trans (hB8.mono HS6.out.size))
          have HQ : Hid (Dig w6 A8 m8 c8 qs ∧ D.Bare qs ∧ D.val qs = de P a (k - J) (J + 1) * a / P) := ⟨hl8, hb8, hv8⟩
          clear hl8 hb8 hv8 hB8 H2
          go_wp2_with fail
          refine H3.out.mono ?_
          rintro e w7 ⟨A9, m9, c9, zs, rfl, hm9, hl9, hb9, hv9, hB9⟩
          have H4 := rdiv_any A8 m8 c8 qs A9 m9 c9 zs w7 (HQ.out.1.below hB9) hl9 HQ.out.2.1 hb9 (by omega) (by omega) (by rw [hv9]; omega)
          rw [HQ.out.2.2, hv9] at H4
          replace H4 := Lib.hid H4
          replace HS6 := Lib.hid (HS6.out.trans (hB9.mono HS6.out.size))
          clear hl9 hb9 hv9 hB9 H3 HQ
          go_wp2_with fail
          refine H4.out.mono ?_
          rintro e w8 ⟨Ac, mc, cc, cs, Ad, md, cd, ds, rfl, hmc, hmd, hlc, hld, hbc, hbd, hvc, hvd, hBc⟩
          replace HS6 := Lib.hid (HS6.out.trans (hBc.mono HS6.out.size))
          have H5 := radd_any A2 m2 c2 ps Ac mc cc cs w8 (HO.out.1.below HS6.out) hlc HO.out.2.1 hbc (by omega) (by omega)
          rw [HO.out.2.2, hvc] at H5
          replace H5 := Lib.hid H5
          clear hlc hld hbc hbd hvc hvd hBc H4 hmd
          go_wp2_with fail
          refine H5.out.mono ?_
          rintro e w9 ⟨Ag, mg, cg, gs, rfl, hmg, hlg, hbg, hvg, hBg⟩
          have hval : D.val gs = de P a (k - i) (i + 1) := by
            rw [hvg, HJ.out, show k - i = (k - J) + 1 by have := HJ.out; omega, de]
          have hg45 : mg ≤ 45 := dlen45 hlg hbg hval (by rw [HP.out]; have := HD.out (k - i) (i + 1) (by omega); omega) hs
          replace HS6 := Lib.hid (HS6.out.trans (hBg.mono HS6.out.size))
          have HLg := Lib.hid hlg
          have HBg := Lib.hid hbg
          have HVg := Lib.hid hval
          have hik : i ≤ k := by have := HJ.out; omega
          have hiJ : i < J := by have := HJ.out; omega
          clear hlg hbg hvg hBg H5 hval HV6 hmg
          go_wp2
          go_roundw
          case rel => exact ⟨i, Ag, mg, cg, gs, hik, by first | rfl | (rw [e1]), rfl, hg45, HLg, HBg, HVg, HS6⟩
          case measure => simp [intOf]; omega
end Go.Proofs.YtngldpmnbdgkiaaDoor
