/- The document's Atanh and Exp of layer 12: the loops. -/
import Derived.Test.YtngldpmnbdgkiaaDoorSrRef
namespace Go.Proofs.YtngldpmnbdgkiaaDoor
open Go.RowKit

theorem dlen45 {w : World} {A : Option Addr} {n c s V : Nat} {ds : List Nat} (hA : Dig w A n c ds) (hb : D.Bare ds) (hv : D.val ds = V) (hV : V ≤ 4 * 2 ^ s) (hs : s ≤ 700) : n ≤ 45 := by
  have h1 : V < 2 ^ (s + 3) := by
    rw [Nat.pow_add]
    have := Nat.two_pow_pos s
    omega
  exact dlen_le hA hb hv h1 (by omega)
theorem div_small {a b P : Nat} (hP : 0 < P) (ha : a ≤ 4 * P) (hb : b ≤ P) : a * b / P ≤ 4 * P := by
  have h1 : a * b ≤ 4 * P * P := Nat.mul_le_mul ha hb
  have := Nat.div_le_div_right (c := P) h1
  rw [Nat.mul_div_cancel _ hP] at this
  exact this

set_option maxHeartbeats 4000000 in
theorem ratanh_l (s : Nat) (A : Option Addr) (n c : Nat) (us : List Nat) (B : Option Addr) (m d : Nat) (bs : List Nat) (w : World) (hA : Dig w A n c us) (hB : Dig w B m d bs) (ba : D.Bare us) (bb : D.Bare bs) (hn : n ≤ 300) (hm : m ≤ 300) (hs : s ≤ 700) (h0 : D.val bs ≠ 0) (h3 : 3 * D.val us ≤ D.val bs) :
    Calls Tryd.prog 16 #[.slice A n c, .slice B m d, .int .i64 (s : Int)] w (DTells w (dA (2 ^ s) (D.val us) (D.val bs) (s / 3 + 3)) 50) := by
  obtain ⟨P, hP⟩ : ∃ P, 2 ^ s = P := ⟨_, rfl⟩
  obtain ⟨X, hX⟩ : ∃ X, D.val us = X := ⟨_, rfl⟩
  obtain ⟨Y, hY⟩ : ∃ Y, D.val bs = Y := ⟨_, rfl⟩
  obtain ⟨r, hr⟩ : ∃ r, X * P / Y = r := ⟨_, rfl⟩
  obtain ⟨q, hq⟩ : ∃ q, r * r / P = q := ⟨_, rfl⟩
  obtain ⟨t, ht⟩ : ∃ t, s / 3 = t := ⟨_, rfl⟩
  obtain ⟨N, hN⟩ : ∃ N, t + 3 = N := ⟨_, rfl⟩
  have hP0 : 0 < P := by rw [← hP]; exact Nat.two_pow_pos s
  rw [hX, hY] at h3
  rw [hY] at h0
  have hb := r_bd hP0 (Nat.pos_of_ne_zero h0) h3 hr
  rw [hq] at hb
  have hG : dA (2 ^ s) (D.val us) (D.val bs) (s / 3 + 3) = dh P q N 0 * r / P := by
    unfold dA
    rw [hP, hX, hY, hr, hq, ht, hN]
  rw [hG]
  have HQ : Hid (3 * r ≤ P ∧ 9 * q ≤ P) := hb
  have HD : Hid (∀ c n, 8 * dh P q c n ≤ 9 * P) := dh_bd hP0 hb.2
  have HP := Lib.hid hP
  have HP0 := Lib.hid hP0
  have HY := Lib.hid hY
  have Hr := Lib.hid hr
  have Hq := Lib.hid hq
  have HB := Lib.hid hB
  have Hbb := Lib.hid bb
  have H1 := rshl_any A n c us s w hA ba (by omega) (by omega)
  rw [hX, hP] at H1
  replace H1 := Lib.hid H1
  have e3 : (s : Int) / 3 = (t : Int) := by omega
  have h0' := Lib.hid h0
  have hs9 : s < 100000 := by omega
  clear hA hB ba bb h3 h0 hX hY hr hq hb hG hP hP0 hn
  go_enter Tryd.func16, Tryd.ntmps16
  go_wp2_with fail
  refine H1.out.mono ?_
  rintro e w1 ⟨A1, m1, c1, es, rfl, hm1, hl1, hb1, hv1, hB1⟩
  have h2 := rdiv_any A1 m1 c1 es B m d bs w1 hl1 (HB.out.below hB1) hb1 Hbb.out hm1 (by omega) (by rw [HY.out]; exact h0'.out)
  rw [hv1, HY.out, Hr.out] at h2
  have H2 := Lib.hid h2
  have HS := Lib.hid hB1
  clear h2 hl1 hb1 hv1 hB1 H1
  go_wp2_with fail
  refine H2.out.mono ?_
  rintro e w2 ⟨A2, m2, c2, rs, A3, m3, c3, xs, rfl, hm2, hm3, hl2, hl3, hb2, hb3, hv2, hv3, hB2⟩
  have hl45 : m2 ≤ 45 := dlen45 hl2 hb2 hv2 (by rw [HP.out]; have := HQ.out.1; omega) hs
  have H3 := rmul_any A2 m2 c2 rs A2 m2 c2 rs w2 hl2 hl2 (by omega) (by omega)
  rw [hv2] at H3
  replace H3 := Lib.hid H3
  replace HS := Lib.hid (HS.out.trans (hB2.mono HS.out.size))
  have HR : Hid (Dig w2 A2 m2 c2 rs ∧ D.Bare rs ∧ D.val rs = r) := ⟨hl2, hb2, hv2⟩
  clear hl2 hl3 hb2 hb3 hv2 hv3 hB2 H2 hm2 hm3
  go_wp2_with fail
  refine H3.out.mono ?_
  rintro e w3 ⟨A4, m4, c4, es, rfl, hm4, hl4, hb4, hv4, hB4⟩
  have H4 := rshift_l (r * r) s 45 A4 m4 c4 es w3 hl4 hb4 hv4 (by omega) (by omega) (s + 1) (by
    rw [HP.out, Hq.out]
    have := HQ.out.2
    rw [Nat.pow_succ, HP.out]
    have := HP0.out
    omega) (by omega)
  rw [HP.out, Hq.out] at H4
  replace H4 := Lib.hid H4
  replace HS := Lib.hid (HS.out.trans (hB4.mono HS.out.size))
  replace HR : Hid (Dig w3 A2 m2 c2 rs ∧ D.Bare rs ∧ D.val rs = r) := ⟨HR.out.1.below hB4, HR.out.2⟩
  clear hl4 hb4 hv4 hB4 H3 hm4
  go_wp2_with fail
  refine H4.out.mono ?_
  rintro e w4 ⟨A5, m5, c5, qs, rfl, hm5, hl5, hb5, hv5, hB5⟩
  replace HS := Lib.hid (HS.out.trans (hB5.mono HS.out.size))
  replace HR : Hid (Dig w4 A2 m2 c2 rs ∧ D.Bare rs ∧ D.val rs = r) := ⟨HR.out.1.below hB5, HR.out.2⟩
  have HU : Hid (Dig w4 A5 m5 c5 qs ∧ D.Bare qs ∧ D.val qs = q) := ⟨hl5, hb5, hv5⟩
  have HN := Lib.hid hN
  clear hl5 hb5 hv5 hB5 H4 HB Hbb HY Hr Hq h0'
  go_wp2_with fail
  go_loopw [10, 11] (fun sm i wr => ∃ (j : Nat) (A6 : Option Addr) (m6 c6 : Nat) (ss : List Nat), j ≤ N ∧ i = .int .i64 ((j : Int) - 1) ∧ sm = .slice A6 m6 c6 ∧ m6 ≤ 45 ∧ Hid (Dig wr A6 m6 c6 ss) ∧ Hid (D.Bare ss) ∧ Hid (D.val ss = dh P q (N - j) j) ∧ Hid (Below w4.heap.size w4 wr)) (fun _ i _ => (intOf i + 1).toNat)
  case atStart => exact ⟨N, none, 0, 0, [], Nat.le_refl _, by rw [← hN]; go_num, rfl, Nat.zero_le _, Dig.nil _ _ _, rfl, by show _ = _; rw [Nat.sub_self]; rfl, Below.refl _ _⟩
  case round =>
    obtain ⟨w5, rfl⟩ : ∃ w5, w5 = wr := ⟨_, rfl⟩
    obtain ⟨j, A6, m6, c6, ss, hj, rfl, rfl, hm6, HL6, HB6, HV6, HS6⟩ := hrel
    have hN9 : N < 100100 := by omega
    clear hN
    by_cases hj0 : j = 0
    · subst hj0
      have H1 := rmul_any A6 m6 c6 ss A2 m2 c2 rs w5 HL6.out (HR.out.1.below HS6.out) (by omega) (by omega)
      rw [HV6.out, HR.out.2.2, Nat.sub_zero] at H1
      replace H1 := Lib.hid H1
      clear HV6 HL6 HB6
      go_wp2_with fail
      refine H1.out.mono ?_
      rintro e w6 ⟨A7, m7, c7, es, rfl, hm7, hl7, hb7, hv7, hB7⟩
      have H2 := rshift_l (dh P q N 0 * r) s 50 A7 m7 c7 es w6 hl7 hb7 hv7 (by omega) (by omega) (s + 3) (by
        rw [HP.out]
        have h1 := HD.out N 0
        have h2 := HQ.out.1
        have h4 := div_small HP0.out (show dh P q N 0 ≤ 4 * P by omega) (show r ≤ P by omega)
        rw [Nat.pow_add, HP.out]
        have := HP0.out
        omega) (by omega)
      rw [HP.out] at H2
      replace H2 := Lib.hid H2
      have HS7 := HS6.out.trans (hB7.mono HS6.out.size)
      have HS8 := Lib.hid (HS.out.trans (HS7.mono HS.out.size))
      clear hl7 hb7 hv7 hB7 H1 HS7 HS6
      go_wp2_with fail
      refine H2.out.mono ?_
      rintro e w7 ⟨A8, m8, c8, es, rfl, hm8, hl8, hb8, hv8, hB8⟩
      have Hfin : Hid (DTells w (dh P q N 0 * r / P) 50 (.returned (.slice A8 m8 c8)) w7) := ⟨A8, m8, c8, es, rfl, hm8, hl8, hb8, hv8, HS8.out.trans (hB8.mono HS8.out.size)⟩
      clear hl8 hb8 hv8 hB8 H2 HS8 HR HU HQ HD HP HP0 HS
      go_wp2
      go_ret
      exact Hfin.out
    · obtain ⟨k, rfl⟩ : ∃ k, j = k + 1 := ⟨j - 1, by omega⟩
      have e1 : ((k + 1 : Nat) : Int) - 1 = (k : Int) := by omega
      rw [e1]
      obtain ⟨z, hz⟩ : ∃ z, 2 * k + 1 = z := ⟨_, rfl⟩
      have ez : (2 : Int) * (k : Int) + 1 = (z : Int) := by omega
      have hz9 : z < 1000000 := by omega
      have Hz := Lib.hid hz
      have H1 := Lib.hid (num_any 1 (by decide) w5)
      clear e1 hj0 hz
      go_wp2_with fail
      refine H1.out.mono ?_
      rintro e w6 ⟨A7, m7, c7, es, rfl, hm7, hl7, hb7, hv7, hB7⟩
      have H2 := rshl_any A7 m7 c7 es s w6 hl7 hb7 (by omega) (by omega)
      rw [hv7, HP.out, Nat.one_mul] at H2
      replace H2 := Lib.hid H2
      replace HS6 := Lib.hid (HS6.out.trans (hB7.mono HS6.out.size))
      replace HL6 := Lib.hid (HL6.out.below hB7)
      clear hl7 hb7 hv7 hB7 H1
      go_wp2_with fail
      refine H2.out.mono ?_
      rintro e w7 ⟨A8, m8, c8, ps, rfl, hm8, hl8, hb8, hv8, hB8⟩
      have H3 := Lib.hid (num_any z (by omega) w7)
      replace HS6 := Lib.hid (HS6.out.trans (hB8.mono HS6.out.size))
      replace HL6 := Lib.hid (HL6.out.below hB8)
      have HPs : Hid (Dig w7 A8 m8 c8 ps ∧ D.Bare ps ∧ D.val ps = P) := ⟨hl8, hb8, hv8⟩
      clear hl8 hb8 hv8 hB8 H2
      go_wp2_with fail
      refine H3.out.mono ?_
      rintro e w8 ⟨A9, m9, c9, zs, rfl, hm9, hl9, hb9, hv9, hB9⟩
      have H4 := rdiv_any A8 m8 c8 ps A9 m9 c9 zs w8 (HPs.out.1.below hB9) hl9 HPs.out.2.1 hb9 hm8 (by omega) (by rw [hv9, ← Hz.out]; omega)
      rw [HPs.out.2.2, hv9] at H4
      replace H4 := Lib.hid H4
      replace HS6 := Lib.hid (HS6.out.trans (hB9.mono HS6.out.size))
      replace HL6 := Lib.hid (HL6.out.below hB9)
      clear hl9 hb9 hv9 hB9 H3 HPs
      go_wp2_with fail
      refine H4.out.mono ?_
      rintro e w9 ⟨Ac, mc, cc, cs, Ad, md, cd, ds, rfl, hmc, hmd, hlc, hld, hbc, hbd, hvc, hvd, hBc⟩
      replace HS6 := Lib.hid (HS6.out.trans (hBc.mono HS6.out.size))
      replace HL6 := Lib.hid (HL6.out.below hBc)
      have hmc45 : mc ≤ 45 := dlen45 hlc hbc hvc (by rw [HP.out]; have := Nat.div_le_self P z; omega) hs
      have HCs : Hid (Dig w9 Ac mc cc cs ∧ D.Bare cs ∧ D.val cs = P / z) := ⟨hlc, hbc, hvc⟩
      have H5 := rmul_any A6 m6 c6 ss A5 m5 c5 qs w9 HL6.out (HU.out.1.below HS6.out) (by omega) (by omega)
      rw [HV6.out, HU.out.2.2] at H5
      replace H5 := Lib.hid H5
      clear hlc hld hbc hbd hvc hvd hBc H4 hmc hmd HL6 HB6
      go_wp2_with fail
      refine H5.out.mono ?_
      rintro e wa ⟨Ae, me, ce, es, rfl, hme, hle, hbe, hve, hBe⟩
      have hbd2 : dh P q (N - (k + 1)) (k + 1) * q / P ≤ 4 * P := div_small HP0.out (by have := HD.out (N - (k + 1)) (k + 1); omega) (by have := HQ.out.2; omega)
      have H6 := rshift_l _ s 45 Ae me ce es wa hle hbe hve (by omega) (by omega) (s + 3) (by
        rw [HP.out]
        rw [Nat.pow_add, HP.out]
        have := HP0.out
        omega) (by omega)
      rw [HP.out] at H6
      replace H6 := Lib.hid H6
      replace HS6 := Lib.hid (HS6.out.trans (hBe.mono HS6.out.size))
      replace HCs : Hid (Dig wa Ac mc cc cs ∧ D.Bare cs ∧ D.val cs = P / z) := ⟨HCs.out.1.below hBe, HCs.out.2⟩
      clear hle hbe hve hBe H5 hbd2 hme
      go_wp2_with fail
      refine H6.out.mono ?_
      rintro e wb ⟨Af, mf, cf, fs, rfl, hmf, hlf, hbf, hvf, hBf⟩
      have H7 := radd_any Ac mc cc cs Af mf cf fs wb (HCs.out.1.below hBf) hlf HCs.out.2.1 hbf (by omega) (by omega)
      rw [HCs.out.2.2, hvf] at H7
      replace H7 := Lib.hid H7
      replace HS6 := Lib.hid (HS6.out.trans (hBf.mono HS6.out.size))
      clear hlf hbf hvf hBf H6 HCs
      go_wp2_with fail
      refine H7.out.mono ?_
      rintro e wc ⟨Ag, mg, cg, gs, rfl, hmg, hlg, hbg, hvg, hBg⟩
      have hval : D.val gs = dh P q (N - k) k := by
        rw [hvg, show N - k = (N - (k + 1)) + 1 by omega, dh, Hz.out]
      have hg45 : mg ≤ 45 := dlen45 hlg hbg hval (by rw [HP.out]; have := HD.out (N - k) k; omega) hs
      replace HS6 := Lib.hid (HS6.out.trans (hBg.mono HS6.out.size))
      have HLg := Lib.hid hlg
      have HBg := Lib.hid hbg
      have HVg := Lib.hid hval
      clear hlg hbg hvg hBg H7 hval HV6 hmg
      go_wp2
      go_roundw
      case rel => exact ⟨k, Ag, mg, cg, gs, by omega, by go_num, rfl, hg45, HLg, HBg, HVg, HS6⟩
      case measure => simp [intOf]
end Go.Proofs.YtngldpmnbdgkiaaDoor
