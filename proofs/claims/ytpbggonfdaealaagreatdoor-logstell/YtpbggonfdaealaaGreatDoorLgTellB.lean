/- The walk of the law LogsTell of what has a logarithm, longer lists at small scales (written by law_ltell.py). -/
import Derived.Test.YtpbggonfdaealaaGreatDoorLgTellM
namespace Go.Proofs.YtpbggonfdaealaaGreatDoor
open Go.RowKit

set_option maxHeartbeats 8000000 in
set_option maxRecDepth 20000 in
theorem ltell_neb (g : Bool) (A : Option Addr) (n c : Nat) (xs : List Nat) (e0 : Int) (z : Nat) (w : World) (hT : Tab w) (hA : Lim w A n c xs) (hl : n ≤ 70 ∧ 12 < n ∧ z ≤ 100) (hz8 : 8 ≤ z) (hz9 : z ≤ 9000) (hr : RightP (nO g (val xs) e0).neg (nO g (val xs) e0).V (nO g (val xs) e0).e) (hc : (nO g (val xs) e0).V ≠ 1) :
    Calls Tryz.prog 3 #[.agg #[.bool g, .slice A n c, .int .i64 e0], .int .i64 (z : Int)] w fun e w' => e = .returned (.bool true) ∧ Below w.heap.size w w' := by
  obtain ⟨⟨ng, nV, nE⟩, hO⟩ : ∃ o, nO g (val xs) e0 = o := ⟨_, rfl⟩
  have hRL := right_log hO
  dsimp only at hRL
  have a1 := below1 w (.cells #[.bool g, .slice A n c, .int .i64 e0] 24)
  have HS := Lib.hid a1
  have HT := Lib.hid (hT.below a1)
  have HXl := Lib.hid (hA.below a1)
  have HX := Lib.hid (Bd.new w 24 g A n c e0)
  have H1 := Lib.hid (lalive_any _ HT.out)
  have HO := Lib.hid hO
  have l1 : decide ((70 : Int) < (n : Int)) = false := decide_eq_false (by omega)
  have l1n : decide (70 < n) = false := decide_eq_false (by omega)
  have l2 : decide ((12 : Int) < (n : Int)) = true := decide_eq_true (by omega)
  have l2n : decide (12 < n) = true := decide_eq_true (by omega)
  have l3 : decide ((100 : Int) < (z : Int)) = false := decide_eq_false (by omega)
  have l3n : decide (100 < z) = false := decide_eq_false (by omega)
  rw [hO] at hr hc
  dsimp only at hr hc
  have HN : Hid (mk g (val xs) e0 = some ⟨ng, nV, nE⟩ ∧ LogD ⟨ng, nV, nE⟩) := hRL.1 hr
  have HR : Hid (decide (RightP ng nV nE) = true) := decide_eq_true hr
  have HSc : Hid (decide (8 ≤ (z : Int) ∧ (z : Int) ≤ 9000) = true) := decide_eq_true ⟨by omega, by omega⟩
  obtain ⟨t, ht⟩ : ∃ t, rtop nV nE = t := ⟨_, rfl⟩
  have ht' : (blen nV : Int) - 1 + nE = t := ht
  have HRt : Hid (rtop nV nE = t ∧ t = (blen nV : Int) - 1 + nE ∧ RightP ng nV nE ∧ ng = false) := ⟨ht, ht'.symm, hr, hr.2.1⟩
  have ht1 : -1048576 ≤ t := by have := hr.2.2.2.2.1; omega
  have ht2 : t ≤ 1048576 := by have := hr.2.2.2.2.2; omega
  have hE1 := hr.1.1
  have hE2 := hr.1.2
  have HEE : Hid (-1073741824 ≤ nE ∧ nE ≤ 1073741824) := ⟨hE1, hE2⟩
  obtain ⟨k, hk⟩ : ∃ k : Nat, max t (-t) = (k : Int) := ⟨t.natAbs, by omega⟩
  have wt : IntKind.i64.wrap (-t) = -t := by rw [IntKind.wrap_i64]; omega
  obtain ⟨k2, hk2⟩ : ∃ x, k + 2 = x := ⟨_, rfl⟩
  have ek2 : (k : Int) + 2 = (k2 : Int) := by omega
  obtain ⟨s2, hs2⟩ : ∃ x, 2 * z = x := ⟨_, rfl⟩
  have es2 : (2 : Int) * (z : Int) = (s2 : Int) := by omega
  obtain ⟨s8, hs8⟩ : ∃ x, s2 + 128 = x := ⟨_, rfl⟩
  have es8 : (s2 : Int) + 128 = (s8 : Int) := by omega
  have hk9 : k ≤ 1048576 := by omega
  have hk29 : k2 ≤ 1048578 := by omega
  have hs89 : s8 ≤ 18128 := by omega
  have hs29 : s2 ≤ 18000 := by omega
  obtain ⟨N, hN⟩ : ∃ x, k2 * s8 = x := ⟨_, rfl⟩
  have hN9 : N ≤ 1048578 * 18128 := by rw [← hN]; exact Nat.mul_le_mul hk29 hs89
  have eN : (k2 : Int) * (s8 : Int) = (N : Int) := by rw [← hN, Int.natCast_mul]
  have HNN : Hid ((N : Int) = ((k : Int) + 2) * (2 * (z : Int) + 128) ∧ (k : Int) = max t (-t)) := ⟨by rw [ek2, es2, es8]; exact eN.symm, hk.symm⟩
  obtain ⟨zz, hzz⟩ : ∃ x : Int, -(z : Int) = x := ⟨_, rfl⟩
  have wz : IntKind.i64.wrap (-(z : Int)) = zz := by rw [hzz, IntKind.wrap_i64]; omega
  have HZ := Lib.hid hzz
  have HC := Lib.hid hc
  clear hT hA a1 hO hRL hr hc ht ht' hk2 hs2 hs8 hN hE1 hE2
  go_enter Tryz.func3, Tryz.ntmps3
  go_wp2_with fail
  refine H1.out.mono ?_
  rintro e w1 ⟨rfl, hB⟩
  replace HT : Hid (Tab w1) := HT.out.below hB
  replace HXl : Hid (Lim w1 A n c xs) := HXl.out.below hB
  replace HX : Hid (Bd w1 w.heap.size 24 g A n c e0) := HX.out.below hB
  replace HS := Lib.hid (HS.out.trans (hB.mono HS.out.size))
  clear hB H1
  have HX_0 := HX.out.c0
  have HX_1 := HX.out.c1
  have HX_2 := HX.out.c2
  have H2 := rof_any g A n c xs e0 w1 HXl.out (by omega)
  rw [HO.out] at H2
  replace H2 := Lib.hid H2
  go_wp2_with fail
  refine H2.out.mono ?_
  rintro e w2 ⟨An, mn, cn, dn, rfl, hmn, hln, hbn, hvn, hB⟩
  clear HX_0 HX_1 HX_2
  replace HT : Hid (Tab w2) := HT.out.below hB
  replace HXl : Hid (Lim w2 A n c xs) := HXl.out.below hB
  replace HX : Hid (Bd w2 w.heap.size 24 g A n c e0) := HX.out.below hB
  replace HS := Lib.hid (HS.out.trans (hB.mono HS.out.size))
  dsimp only at hvn
  have HNd : Hid (Dig w2 An mn cn dn ∧ D.Bare dn ∧ D.val dn = nV) := ⟨hln, hbn, hvn⟩
  clear hln hbn hvn hB H2
  have ba := below1 w2 (.cells #[.bool ng, .slice An mn cn, .int .i64 nE] 28)
  replace HT : Hid (Tab (w2.alloc (.cells #[.bool ng, .slice An mn cn, .int .i64 nE] 28))) := HT.out.below ba
  replace HXl : Hid (Lim (w2.alloc (.cells #[.bool ng, .slice An mn cn, .int .i64 nE] 28)) A n c xs) := HXl.out.below ba
  replace HX : Hid (Bd (w2.alloc (.cells #[.bool ng, .slice An mn cn, .int .i64 nE] 28)) w.heap.size 24 g A n c e0) := HX.out.below ba
  replace HNd : Hid (Dig (w2.alloc (.cells #[.bool ng, .slice An mn cn, .int .i64 nE] 28)) An mn cn dn ∧ D.Bare dn ∧ D.val dn = nV) := ⟨HNd.out.1.below ba, HNd.out.2⟩
  replace HS := Lib.hid (HS.out.trans (ba.mono HS.out.size))
  clear ba
  have HNb : Hid (Bd (w2.alloc (.cells #[.bool ng, .slice An mn cn, .int .i64 nE] 28)) w2.heap.size 28 ng An mn cn nE) := Bd.new w2 28 ng An mn cn nE
  have HX_0 := HX.out.c0
  have HX_1 := HX.out.c1
  have HX_2 := HX.out.c2
  have H3 := Lib.hid (log_lg g A n c xs e0 (z : Int) (w2.alloc (.cells #[.bool ng, .slice An mn cn, .int .i64 nE] 28)) HXl.out (by omega) HT.out (by omega) (by omega))
  go_wp2_with fail
  refine H3.out.mono ?_
  rintro e w3 ⟨g3a, A3a, m3a, c3a, s3a, e3a, g3b, A3b, m3b, c3b, s3b, e3b, r3, rfl, hm3a, hm3b, hl3a, hl3b, hb3a, hb3b, hB, hq⟩
  clear HX_0 HX_1 HX_2
  replace HT : Hid (Tab w3) := HT.out.below hB
  replace HXl : Hid (Lim w3 A n c xs) := HXl.out.below hB
  replace HX : Hid (Bd w3 w.heap.size 24 g A n c e0) := HX.out.below hB
  replace HNd : Hid (Dig w3 An mn cn dn ∧ D.Bare dn ∧ D.val dn = nV) := ⟨HNd.out.1.below hB, HNd.out.2⟩
  replace HNb : Hid (Bd w3 w2.heap.size 28 ng An mn cn nE) := HNb.out.below hB
  replace HS := Lib.hid (HS.out.trans (hB.mono HS.out.size))
  have HLi : Hid (Lim w3 A3a m3a c3a s3a) := hl3a
  have HHi : Hid (Lim w3 A3b m3b c3b s3b) := hl3b
  have HBi : Hid (Bare s3a ∧ Bare s3b) := ⟨hb3a, hb3b⟩
  obtain ⟨rfl, Ln, Un_, hV, hLU, hUU⟩ := logp_yes hq HN.out.1 HN.out.2 (by omega) (by omega)
  rw [Int.toNat_natCast] at hV hLU hUU
  have hf := log_far HN.out.2 hz8 hz9 hV
  have hs_a := end_short hl3a hb3a hLU hz9 hf.1
  have hs_b := end_short hl3b hb3b hUU hz9 hf.2
  have HQ : Hid (LogV ⟨ng, nV, nE⟩ z Ln Un_ ∧ Un z Ln ⟨g3a, val s3a, e3a⟩ ∧ Un z Un_ ⟨g3b, val s3b, e3b⟩ ∧ Ln.natAbs < 2 ^ (z + 64) ∧ Un_.natAbs < 2 ^ (z + 64)) := ⟨hV, hLU, hUU, far_up hf.1, far_up hf.2⟩
  clear hV hLU hUU hf
  clear hl3a hl3b hb3a hb3b hB hq H3
  have ba := below1 w3 (.cells #[.bool g3a, .slice A3a m3a c3a, .int .i64 e3a, .bool g3b, .slice A3b m3b c3b, .int .i64 e3b] 32)
  replace HT : Hid (Tab (w3.alloc (.cells #[.bool g3a, .slice A3a m3a c3a, .int .i64 e3a, .bool g3b, .slice A3b m3b c3b, .int .i64 e3b] 32))) := HT.out.below ba
  replace HXl : Hid (Lim (w3.alloc (.cells #[.bool g3a, .slice A3a m3a c3a, .int .i64 e3a, .bool g3b, .slice A3b m3b c3b, .int .i64 e3b] 32)) A n c xs) := HXl.out.below ba
  replace HX : Hid (Bd (w3.alloc (.cells #[.bool g3a, .slice A3a m3a c3a, .int .i64 e3a, .bool g3b, .slice A3b m3b c3b, .int .i64 e3b] 32)) w.heap.size 24 g A n c e0) := HX.out.below ba
  replace HNd : Hid (Dig (w3.alloc (.cells #[.bool g3a, .slice A3a m3a c3a, .int .i64 e3a, .bool g3b, .slice A3b m3b c3b, .int .i64 e3b] 32)) An mn cn dn ∧ D.Bare dn ∧ D.val dn = nV) := ⟨HNd.out.1.below ba, HNd.out.2⟩
  replace HNb : Hid (Bd (w3.alloc (.cells #[.bool g3a, .slice A3a m3a c3a, .int .i64 e3a, .bool g3b, .slice A3b m3b c3b, .int .i64 e3b] 32)) w2.heap.size 28 ng An mn cn nE) := HNb.out.below ba
  replace HLi : Hid (Lim (w3.alloc (.cells #[.bool g3a, .slice A3a m3a c3a, .int .i64 e3a, .bool g3b, .slice A3b m3b c3b, .int .i64 e3b] 32)) A3a m3a c3a s3a) := HLi.out.below ba
  replace HHi : Hid (Lim (w3.alloc (.cells #[.bool g3a, .slice A3a m3a c3a, .int .i64 e3a, .bool g3b, .slice A3b m3b c3b, .int .i64 e3b] 32)) A3b m3b c3b s3b) := HHi.out.below ba
  replace HS := Lib.hid (HS.out.trans (ba.mono HS.out.size))
  clear ba
  have HIi : Hid (Ib (w3.alloc (.cells #[.bool g3a, .slice A3a m3a c3a, .int .i64 e3a, .bool g3b, .slice A3b m3b c3b, .int .i64 e3b] 32)) w3.heap.size g3a A3a m3a c3a e3a g3b A3b m3b c3b e3b) := Ib.new w3 g3a A3a m3a c3a e3a g3b A3b m3b c3b e3b
  have HNb_0 := HNb.out.c0
  have HNb_1 := HNb.out.c1
  have HNb_2 := HNb.out.c2
  have H4 := Lib.hid (rright_l true ng An mn cn dn nE (w3.alloc (.cells #[.bool g3a, .slice A3a m3a c3a, .int .i64 e3a, .bool g3b, .slice A3b m3b c3b, .int .i64 e3b] 32)) HNd.out.1 HNd.out.2.1 (by omega) (by rw [HNd.out.2.2]; exact HR.out))
  go_wp2_with fail
  refine H4.out.mono ?_
  rintro e w4 ⟨rfl, hB⟩
  clear HNb_0 HNb_1 HNb_2
  replace HT : Hid (Tab w4) := HT.out.below hB
  replace HXl : Hid (Lim w4 A n c xs) := HXl.out.below hB
  replace HX : Hid (Bd w4 w.heap.size 24 g A n c e0) := HX.out.below hB
  replace HNd : Hid (Dig w4 An mn cn dn ∧ D.Bare dn ∧ D.val dn = nV) := ⟨HNd.out.1.below hB, HNd.out.2⟩
  replace HNb : Hid (Bd w4 w2.heap.size 28 ng An mn cn nE) := HNb.out.below hB
  replace HLi : Hid (Lim w4 A3a m3a c3a s3a) := HLi.out.below hB
  replace HHi : Hid (Lim w4 A3b m3b c3b s3b) := HHi.out.below hB
  replace HIi : Hid (Ib w4 w3.heap.size g3a A3a m3a c3a e3a g3b A3b m3b c3b e3b) := HIi.out.below hB
  replace HS := Lib.hid (HS.out.trans (hB.mono HS.out.size))
  clear hB H4
  have H5 := Lib.hid (right_l (z : Int) true w4 HSc.out)
  go_wp2_with fail
  refine H5.out.mono ?_
  rintro e w' ⟨rfl, rfl⟩
  clear H5 HSc HR
  clear HX HXl
  clear HO
  have HNb_0 := HNb.out.c0
  have HNb_1 := HNb.out.c1
  have HNb_2 := HNb.out.c2
  have H6 := Lib.hid (rtop_l t ng An mn cn dn nE w4 HNd.out.1 HNd.out.2.1 (by omega) (by have := HEE.out; omega) (by have := HEE.out; omega) (by rw [HNd.out.2.2]; exact HRt.out.1))
  go_wp2_with fail
  refine H6.out.mono ?_
  rintro e w5 ⟨rfl, hB⟩
  clear HNb_0 HNb_1 HNb_2
  replace HT : Hid (Tab w5) := HT.out.below hB
  replace HNd : Hid (Dig w5 An mn cn dn ∧ D.Bare dn ∧ D.val dn = nV) := ⟨HNd.out.1.below hB, HNd.out.2⟩
  replace HNb : Hid (Bd w5 w2.heap.size 28 ng An mn cn nE) := HNb.out.below hB
  replace HLi : Hid (Lim w5 A3a m3a c3a s3a) := HLi.out.below hB
  replace HHi : Hid (Lim w5 A3b m3b c3b s3b) := HHi.out.below hB
  replace HIi : Hid (Ib w5 w3.heap.size g3a A3a m3a c3a e3a g3b A3b m3b c3b e3b) := HIi.out.below hB
  replace HS := Lib.hid (HS.out.trans (hB.mono HS.out.size))
  clear hB H6
  have HIi_0 := HIi.out.x0
  have HIi_1 := HIi.out.x1
  have HIi_2 := HIi.out.x2
  have HIi_3 := HIi.out.x3
  have HIi_4 := HIi.out.x4
  have HIi_5 := HIi.out.x5
  have H7 := Lib.hid (lthin_l g3a A3a m3a c3a s3a e3a g3b A3b m3b c3b s3b e3b N z Ln Un_ w5 HLi.out HHi.out hm3a hm3b HT.out hz9 (by omega) HQ.out.2.1 HQ.out.2.2.1 HQ.out.2.2.2.1 HQ.out.2.2.2.2 (log_order HN.out.2 HQ.out.1) (by rw [HNN.out.1]; exact log_wide HN.out.2 HQ.out.1 (by rw [HNN.out.2, HRt.out.2.1])))
  go_wp2_with fail
  refine H7.out.mono ?_
  rintro e w6 ⟨rfl, hB⟩
  clear HIi_0 HIi_1 HIi_2 HIi_3 HIi_4 HIi_5
  replace HT : Hid (Tab w6) := HT.out.below hB
  replace HNd : Hid (Dig w6 An mn cn dn ∧ D.Bare dn ∧ D.val dn = nV) := ⟨HNd.out.1.below hB, HNd.out.2⟩
  replace HNb : Hid (Bd w6 w2.heap.size 28 ng An mn cn nE) := HNb.out.below hB
  replace HLi : Hid (Lim w6 A3a m3a c3a s3a) := HLi.out.below hB
  replace HHi : Hid (Lim w6 A3b m3b c3b s3b) := HHi.out.below hB
  replace HIi : Hid (Ib w6 w3.heap.size g3a A3a m3a c3a e3a g3b A3b m3b c3b e3b) := HIi.out.below hB
  replace HS := Lib.hid (HS.out.trans (hB.mono HS.out.size))
  clear hB H7
  have hw1 := hs_a
  clear hw1
  obtain ⟨⟨bpg, bpV, bpE⟩, n1p, _, n2p, _, _⟩ := un_nO HQ.out.2.1 hz9 HQ.out.2.2.2.1
  dsimp only at n1p n2p
  have fp : decide (bpE < zz) = false := decide_eq_false (by omega)
  have HIi_0 := HIi.out.x0
  have HIi_1 := HIi.out.x1
  have HIi_2 := HIi.out.x2
  have HIi_3 := HIi.out.x3
  have HIi_4 := HIi.out.x4
  have HIi_5 := HIi.out.x5
  have H8 := lof_l g3a A3a m3a c3a s3a e3a w6 HLi.out (by omega)
  rw [n1p] at H8
  replace H8 := Lib.hid H8
  clear n1p n2p
  go_wp2_with fail
  refine H8.out.mono ?_
  rintro e w7 ⟨A7, m7, c7, d7, rfl, hm7, hl7, hb7, hv7, hB⟩
  clear HIi_0 HIi_1 HIi_2 HIi_3 HIi_4 HIi_5
  replace HT : Hid (Tab w7) := HT.out.below hB
  replace HNd : Hid (Dig w7 An mn cn dn ∧ D.Bare dn ∧ D.val dn = nV) := ⟨HNd.out.1.below hB, HNd.out.2⟩
  replace HNb : Hid (Bd w7 w2.heap.size 28 ng An mn cn nE) := HNb.out.below hB
  replace HLi : Hid (Lim w7 A3a m3a c3a s3a) := HLi.out.below hB
  replace HHi : Hid (Lim w7 A3b m3b c3b s3b) := HHi.out.below hB
  replace HIi : Hid (Ib w7 w3.heap.size g3a A3a m3a c3a e3a g3b A3b m3b c3b e3b) := HIi.out.below hB
  replace HS := Lib.hid (HS.out.trans (hB.mono HS.out.size))
  clear hm7 hl7 hb7 hv7 hB H8
  obtain ⟨⟨brg, brV, brE⟩, n1r, _, n2r, _, _⟩ := un_nO HQ.out.2.2.1 hz9 HQ.out.2.2.2.2
  dsimp only at n1r n2r
  have fr : decide (brE < zz) = false := decide_eq_false (by omega)
  have HIi_0 := HIi.out.x0
  have HIi_1 := HIi.out.x1
  have HIi_2 := HIi.out.x2
  have HIi_3 := HIi.out.x3
  have HIi_4 := HIi.out.x4
  have HIi_5 := HIi.out.x5
  have H8 := lof_l g3b A3b m3b c3b s3b e3b w7 HHi.out (by omega)
  rw [n1r] at H8
  replace H8 := Lib.hid H8
  clear n1r n2r
  go_wp2_with fail
  refine H8.out.mono ?_
  rintro e w8 ⟨A8, m8, c8, d8, rfl, hm8, hl8, hb8, hv8, hB⟩
  clear HIi_0 HIi_1 HIi_2 HIi_3 HIi_4 HIi_5
  replace HT : Hid (Tab w8) := HT.out.below hB
  replace HNd : Hid (Dig w8 An mn cn dn ∧ D.Bare dn ∧ D.val dn = nV) := ⟨HNd.out.1.below hB, HNd.out.2⟩
  replace HNb : Hid (Bd w8 w2.heap.size 28 ng An mn cn nE) := HNb.out.below hB
  replace HLi : Hid (Lim w8 A3a m3a c3a s3a) := HLi.out.below hB
  replace HHi : Hid (Lim w8 A3b m3b c3b s3b) := HHi.out.below hB
  replace HIi : Hid (Ib w8 w3.heap.size g3a A3a m3a c3a e3a g3b A3b m3b c3b e3b) := HIi.out.below hB
  replace HS := Lib.hid (HS.out.trans (hB.mono HS.out.size))
  clear hm8 hl8 hb8 hv8 hB H8
  have bd := below_drew w8
  replace HT : Hid (Tab w8.drew) := HT.out.below bd
  replace HNd : Hid (Dig w8.drew An mn cn dn ∧ D.Bare dn ∧ D.val dn = nV) := ⟨HNd.out.1.below bd, HNd.out.2⟩
  replace HNb : Hid (Bd w8.drew w2.heap.size 28 ng An mn cn nE) := HNb.out.below bd
  replace HLi : Hid (Lim w8.drew A3a m3a c3a s3a) := HLi.out.below bd
  replace HHi : Hid (Lim w8.drew A3b m3b c3b s3b) := HHi.out.below bd
  replace HIi : Hid (Ib w8.drew w3.heap.size g3a A3a m3a c3a e3a g3b A3b m3b c3b e3b) := HIi.out.below bd
  replace HS := Lib.hid (HS.out.trans (bd.mono HS.out.size))
  clear bd
  obtain ⟨vo, hvo⟩ : ∃ v, cmpZ nV 1 = v := ⟨_, rfl⟩
  have cvo : (vo == 0) = false := by
    refine beq_no ?_
    rw [← hvo]
    rcases Nat.lt_trichotomy nV 1 with h | h | h
    · rw [cmpZ_lt h]; decide
    · exact absurd h HC.out
    · rw [cmpZ_gt h]; decide
  have Ka : Hid (∀ u, Below w8.drew.heap.size w8.drew u → Calls Tryz.prog 13 #[.int .u64 1] u (DTells u 1 4)) := fun u _ => num_any 1 (by decide) u
  have Kb : Hid (∀ u A m c ds, Below w8.drew.heap.size w8.drew u → Dig u A m c ds → D.Bare ds → D.val ds = 1 → m ≤ 4 → Calls Tryz.prog 12 #[.slice An mn cn, .slice A m c] u fun e w' => e = .returned (.int .i64 vo) ∧ Below u.heap.size u w') := fun u A m c ds hu h1 h2 h3 h4 => rcmp_v vo An mn cn dn A m c ds u (HNd.out.1.below hu) h1 HNd.out.2.1 h2 (by omega) (by omega) (by rw [HNd.out.2.2, h3]; exact hvo)
  have HW : Hid (∀ u, Below w8.drew.heap.size w8.drew u → u.cell? ⟨w2.heap.size, 1, none⟩ = some (.slice An mn cn) ∧ u.cell? ⟨w2.heap.size, 2, none⟩ = some (.int .i64 nE)) := fun u hu => ⟨(HNb.out.below hu).c1, (HNb.out.below hu).c2⟩
  have cur := Lib.hid (Below.refl w8.drew.heap.size w8.drew)
  clear hvo
  go_wp2_with fail
  refine wp_region_noPanic ?_
  refine wp_region_held_drew (S := fun u => u.cell? ⟨w2.heap.size, 1, none⟩ = some (.slice An mn cn) ∧ u.cell? ⟨w2.heap.size, 2, none⟩ = some (.int .i64 nE)) (by kernel_rfl) (HW.out _ cur.out) (fun hHeld => ?_)
  refine wpAnyH_take (i := 0) (v := ?_) rfl (by kernel_rfl) (by kernel_rfl) (by kernel_rfl) (fun _ _ _ h => h) (Or.inl ⟨by rfl, ?_⟩) hHeld ?_
  rotate_left
  · intro w' hSw
    (try dsimp only at hSw)
    go_simp
    all_goals (with_reducible rfl)
  simp only [List.getElem_toArray, List.getElem_cons_zero, Act.put, List.setIfInBounds_toArray, List.set_cons_zero, List.set_cons_succ]
  refine wpAnyH_take (i := 1) (v := ?_) rfl (by kernel_rfl) (by kernel_rfl) (by kernel_rfl) (fun _ _ _ h => h) (Or.inl ⟨by rfl, ?_⟩) hHeld ?_
  rotate_left
  · intro w' hSw
    (try dsimp only at hSw)
    go_simp
    all_goals (with_reducible rfl)
  simp only [List.getElem_toArray, List.getElem_cons_succ, List.getElem_cons_zero, Act.put, List.setIfInBounds_toArray, List.set_cons_zero, List.set_cons_succ]
  refine wpAnyH_ready (rs := [2]) (by kernel_rfl) (by simp) ?_
  refine AllReadyH.cons rfl (fun K' hK' => ?_) AllReadyH.nil
  go_simp
  refine (Ka.out _ cur.out).mono ?_
  rintro e ua ⟨Aa, ma, ca, sa, rfl, hma, hla, hba, hva, hB⟩
  refine hK'.out _ _ ?_ (fun hHeld => ?_)
  · exact HW.out _ (cur.out.trans (hB.mono cur.out.size))
  clear hK' K'
  replace cur := Lib.hid (cur.out.trans (hB.mono cur.out.size))
  clear hB
  refine wpAnyH_ready (rs := [3]) (by kernel_rfl) (by simp) ?_
  refine AllReadyH.cons rfl (fun K' hK' => ?_) AllReadyH.nil
  go_simp
  refine (Kb.out _ Aa ma ca sa cur.out hla hba hva hma).mono ?_
  rintro e ub ⟨rfl, hB⟩
  refine hK'.out _ _ ?_ (fun hHeld => ?_)
  · exact HW.out _ (cur.out.trans (hB.mono cur.out.size))
  clear hK' K'
  replace cur := Lib.hid (cur.out.trans (hB.mono cur.out.size))
  clear hB hla hba hva
  refine wpAnyH_take (i := 4) (v := ?_) rfl (by kernel_rfl) (by kernel_rfl) (by kernel_rfl) (fun _ _ _ h => h) (Or.inl ⟨by rfl, ?_⟩) hHeld ?_
  rotate_left
  · intro w' hSw
    (try dsimp only at hSw)
    go_simp
    all_goals (with_reducible rfl)
  simp only [List.getElem_toArray, List.getElem_cons_succ, List.getElem_cons_zero, Act.put, List.setIfInBounds_toArray, List.set_cons_zero, List.set_cons_succ]
  refine wpAnyH_take (i := 5) (v := ?_) rfl (by kernel_rfl) (by kernel_rfl) (by kernel_rfl) (fun _ _ _ h => h) (Or.inl ⟨by rfl, ?_⟩) hHeld ?_
  rotate_left
  · intro w' hSw
    (try dsimp only at hSw)
    go_simp
    all_goals (with_reducible rfl)
  simp only [List.getElem_toArray, List.getElem_cons_succ, List.getElem_cons_zero, Act.put, List.setIfInBounds_toArray, List.set_cons_zero, List.set_cons_succ]
  refine wpAnyH_take (i := 6) (v := undef) rfl (by kernel_rfl) (by kernel_rfl) (by kernel_rfl) (fun _ _ _ h => h) (Or.inr ⟨by rfl, rfl⟩) hHeld ?_
  simp only [List.getElem_toArray, List.getElem_cons_succ, List.getElem_cons_zero, Act.put, List.setIfInBounds_toArray, List.set_cons_zero, List.set_cons_succ]
  refine wpAnyH_take (i := 7) (v := undef) rfl (by kernel_rfl) (by kernel_rfl) (by kernel_rfl) (fun _ _ _ h => h) (Or.inr ⟨by rfl, rfl⟩) hHeld ?_
  simp only [List.getElem_toArray, List.getElem_cons_succ, List.getElem_cons_zero, Act.put, List.setIfInBounds_toArray, List.set_cons_zero, List.set_cons_succ]
  refine wpAnyH_take (i := 8) (v := undef) rfl (by kernel_rfl) (by kernel_rfl) (by kernel_rfl) (fun _ _ _ h => h) (Or.inr ⟨by rfl, rfl⟩) hHeld ?_
  simp only [List.getElem_toArray, List.getElem_cons_succ, List.getElem_cons_zero, Act.put, List.setIfInBounds_toArray, List.set_cons_zero, List.set_cons_succ]
  refine wpAnyH_take (i := 9) (v := ?_) rfl (by kernel_rfl) (by kernel_rfl) (by kernel_rfl) (fun _ _ _ h => h) (Or.inl ⟨by rfl, ?_⟩) hHeld ?_
  rotate_left
  · intro w' hSw
    (try dsimp only at hSw)
    go_simp
    all_goals (with_reducible rfl)
  simp only [List.getElem_toArray, List.getElem_cons_succ, List.getElem_cons_zero, Act.put, List.setIfInBounds_toArray, List.set_cons_zero, List.set_cons_succ]
  refine wpAnyH_take (i := 10) (v := ?_) rfl (by kernel_rfl) (by kernel_rfl) (by kernel_rfl) (fun _ _ _ h => h) (Or.inl ⟨by rfl, ?_⟩) hHeld ?_
  rotate_left
  · intro w' hSw
    (try dsimp only at hSw)
    go_simp
    all_goals (with_reducible rfl)
  simp only [List.getElem_toArray, List.getElem_cons_succ, List.getElem_cons_zero, Act.put, List.setIfInBounds_toArray, List.set_cons_zero, List.set_cons_succ]
  refine wpAnyH_done (by kernel_rfl) ?_ _
  refine NoPanic.normal ?_
  clear hHeld
  all_goals (
    have bc := cur.out
    replace HT : Hid (Tab ub) := HT.out.below bc
    replace HNd : Hid (Dig ub An mn cn dn ∧ D.Bare dn ∧ D.val dn = nV) := ⟨HNd.out.1.below bc, HNd.out.2⟩
    replace HNb : Hid (Bd ub w2.heap.size 28 ng An mn cn nE) := HNb.out.below bc
    replace HLi : Hid (Lim ub A3a m3a c3a s3a) := HLi.out.below bc
    replace HHi : Hid (Lim ub A3b m3b c3b s3b) := HHi.out.below bc
    replace HIi : Hid (Ib ub w3.heap.size g3a A3a m3a c3a e3a g3b A3b m3b c3b e3b) := HIi.out.below bc
    replace HS := Lib.hid (HS.out.trans (bc.mono HS.out.size))
    clear bc cur Ka Kb HW
    clear HC
    have HIi_0 := HIi.out.x0
    have HIi_1 := HIi.out.x1
    have HIi_2 := HIi.out.x2
    have HIi_3 := HIi.out.x3
    have HIi_4 := HIi.out.x4
    have HIi_5 := HIi.out.x5
    by_cases h4 : 400 < z
    · have d4 : decide ((400 : Int) < (z : Int)) = true := decide_eq_true (by omega)
      have d4n : decide (400 < z) = true := decide_eq_true h4
      have Hfin := Lib.hid HS.out
      clear h4 HS HEE HNN HRt HN HQ HBi HZ hk HT HNd HNb HLi HHi HIi
      go_wp2
      go_ret
      exact ⟨rfl, Hfin.out⟩
    · have d4 : decide ((400 : Int) < (z : Int)) = false := decide_eq_false (by omega)
      have d4n : decide (400 < z) = false := decide_eq_false h4
      obtain ⟨m, hm⟩ : ∃ x, z + 80 = x := ⟨_, rfl⟩
      have em : (z : Int) + 80 = (m : Int) := by omega
      have hm9 : m ≤ 480 := by omega
      have hm3 : 3 ≤ m := by omega
      obtain ⟨Av, hAv⟩ : ∃ x, dA (2 ^ m) (dnX nV) (dnY nV) (m / 3 + 3) = x := ⟨_, rfl⟩
      obtain ⟨Tv, hTv⟩ : ∃ x, dA (2 ^ m) 1 3 (m / 3 + 3) = x := ⟨_, rfl⟩
      obtain ⟨⟨og, oV, oE⟩, o1, o2, o3⟩ := llog_l nV nE m Av Tv t HRt.out.2.2.1.2.2.1 HRt.out.2.2.1.2.2.2.1 HEE.out.1 HEE.out.2 HRt.out.1 ht1 ht2 hm3 (by omega) hAv hTv
      dsimp only at o1 o2
      have th := tell_holds HN.out.2 HQ.out.1 HRt.out.2.1 Av Tv (by rw [hm]; exact hAv) (by rw [hm]; exact hTv) _ rfl
      have tw_ := tell_worth (by omega) HQ.out.2.1 HQ.out.2.2.1 (o := ⟨og, oV, oE⟩) (f := ⟨false, docW t, -(m : Int)⟩) Av Tv (by rw [hm]; exact o1) (by rw [hm]; exact dw_us false (docW t) m) _ rfl th
      dsimp only at tw_
      have HTW := Lib.hid tw_
      have Ho3 := Lib.hid o3
      have HoE : Hid (oE = -(m : Int)) := o2
      obtain ⟨wt_, hwt⟩ : ∃ x, docW t = x := ⟨_, rfl⟩
      rw [hwt] at HTW
      have Hwt := Lib.hid hwt
      obtain ⟨mm, hmm⟩ : ∃ x : Int, -(m : Int) = x := ⟨_, rfl⟩
      rw [hmm] at HTW
      obtain rfl : false = ng := HRt.out.2.2.2.symm
      have cur := Lib.hid (below_drew ub)
      have KL : Hid (∀ u, Below ub.heap.size ub u → Calls Tryz.prog 15 #[.agg #[.bool false, .slice An mn cn, .int .i64 nE], .int .i64 (m : Int)] u (NTold u ⟨og, oV, oE⟩ 60)) := fun u hu => Ho3.out An mn cn dn u (HNd.out.1.below hu) HNd.out.2.1 HNd.out.2.2 (by omega)
      have KO : Hid (∀ u, Below ub.heap.size ub u → Calls Tryz.prog 16 #[.int .i64 t, .int .i64 (m : Int)] u (NTold u ⟨false, wt_, mm⟩ 20)) := fun u _ => by have h := loff_l t m u ht1 ht2 (by omega); rw [Hwt.out, hmm] at h; exact h
      have KH : Hid (∀ u A p d es B r b fs, Below ub.heap.size ub u → Dig u A p d es → D.Bare es → D.val es = oV → p ≤ 60 → Dig u B r b fs → D.Bare fs → D.val fs = wt_ → r ≤ 20 → Calls Tryz.prog 14 #[.agg #[.bool g3a, .slice A3a m3a c3a, .int .i64 e3a, .bool g3b, .slice A3b m3b c3b, .int .i64 e3b], .agg #[.bool og, .slice A p d, .int .i64 oE], .agg #[.bool false, .slice B r b, .int .i64 mm]] u fun e w' => e = .returned (.bool true) ∧ Below u.heap.size u w') := fun u A p d es B r b fs hu a1 a2 a3 a4 a5 a6 a7 a8 =>
        lholds_l g3a A3a m3a c3a s3a e3a g3b A3b m3b c3b s3b e3b og A p d es oE false B r b fs mm z m Ln Un_ u (HLi.out.below hu) (HHi.out.below hu) a1 a5 a2 a6 (by omega) (by omega) a4 (by omega) HoE.out hmm.symm (by omega) hz9 HQ.out.2.1 HQ.out.2.2.1 HQ.out.2.2.2.1 HQ.out.2.2.2.2 (by rw [a3, a7]; exact HTW.out.1) (by rw [a3, a7]; exact HTW.out.2)
      have HW : Hid (∀ u, Below ub.heap.size ub u → u.cell? ⟨w3.heap.size, 0, none⟩ = some (.bool g3a) ∧ u.cell? ⟨w3.heap.size, 1, none⟩ = some (.slice A3a m3a c3a) ∧ u.cell? ⟨w3.heap.size, 2, none⟩ = some (.int .i64 e3a) ∧ u.cell? ⟨w3.heap.size, 3, none⟩ = some (.bool g3b) ∧ u.cell? ⟨w3.heap.size, 4, none⟩ = some (.slice A3b m3b c3b) ∧ u.cell? ⟨w3.heap.size, 5, none⟩ = some (.int .i64 e3b) ∧ u.cell? ⟨w2.heap.size, 0, none⟩ = some (.bool false) ∧ u.cell? ⟨w2.heap.size, 1, none⟩ = some (.slice An mn cn) ∧ u.cell? ⟨w2.heap.size, 2, none⟩ = some (.int .i64 nE)) := fun u hu => ⟨(HIi.out.below hu).x0, (HIi.out.below hu).x1, (HIi.out.below hu).x2, (HIi.out.below hu).x3, (HIi.out.below hu).x4, (HIi.out.below hu).x5, (HNb.out.below hu).c0, (HNb.out.below hu).c1, (HNb.out.below hu).c2⟩
      have HSd := Lib.hid HS.out
      clear hm hAv hTv o1 o2 o3 th tw_ hwt Hwt hmm HTW Ho3 HoE h4 HS HEE HNN HRt HN HQ HBi HZ hk HT HNd HNb HLi HHi HIi
      go_wp2_with fail
      go_region_held3 (fun u => u.cell? ⟨w3.heap.size, 0, none⟩ = some (.bool g3a) ∧ u.cell? ⟨w3.heap.size, 1, none⟩ = some (.slice A3a m3a c3a) ∧ u.cell? ⟨w3.heap.size, 2, none⟩ = some (.int .i64 e3a) ∧ u.cell? ⟨w3.heap.size, 3, none⟩ = some (.bool g3b) ∧ u.cell? ⟨w3.heap.size, 4, none⟩ = some (.slice A3b m3b c3b) ∧ u.cell? ⟨w3.heap.size, 5, none⟩ = some (.int .i64 e3b) ∧ u.cell? ⟨w2.heap.size, 0, none⟩ = some (.bool false) ∧ u.cell? ⟨w2.heap.size, 1, none⟩ = some (.slice An mn cn) ∧ u.cell? ⟨w2.heap.size, 2, none⟩ = some (.int .i64 nE)) (with_reducible exact HW.out _ cur.out)
        (first
          | (go_at_call 15; (with_reducible refine (KL.out _ cur.out).mono ?_); rintro e uc ⟨Ao, mo, co, dO, rfl, hmo, hlo, hbo, hvo, hB⟩; (with_reducible (replace cur := Lib.hid (cur.out.trans (hB.mono (cur.out.size))))); have Lo_ := Lib.hid hlo; clear hlo hB)
          | (go_at_call 16; (with_reducible refine (KO.out _ cur.out).mono ?_); rintro e ud ⟨Af, mf, cf, df, rfl, hmf, hlf, hbf, hvf, hB⟩; (with_reducible (replace cur := Lib.hid (cur.out.trans (hB.mono (cur.out.size))))); replace Lo_ := Lib.hid (Lo_.out.below hB); clear hB)
          | (go_at_call 14; (with_reducible refine (KH.out _ Ao mo co dO Af mf cf df cur.out Lo_.out hbo hvo hmo hlf hbf hvf hmf).mono ?_); rintro e ue ⟨rfl, hB⟩; (with_reducible (replace cur := Lib.hid (cur.out.trans (hB.mono (cur.out.size))))); clear hB hbo hvo hlf hbf hvf))
      all_goals (
        have Hfin := Lib.hid (HSd.out.trans (cur.out.mono HSd.out.size))
        clear KL KO KH HW cur HSd Lo_
        go_wp2
        go_ret
        exact ⟨rfl, Hfin.out⟩))

set_option maxHeartbeats 8000000 in
set_option maxRecDepth 20000 in
theorem ltell_v1b (g : Bool) (A : Option Addr) (n c : Nat) (xs : List Nat) (e0 : Int) (z : Nat) (w : World) (hT : Tab w) (hA : Lim w A n c xs) (hl : n ≤ 70 ∧ 12 < n ∧ z ≤ 100) (hz8 : 8 ≤ z) (hz9 : z ≤ 9000) (hr : RightP (nO g (val xs) e0).neg (nO g (val xs) e0).V (nO g (val xs) e0).e) (hc : (nO g (val xs) e0).V = 1 ∧ (nO g (val xs) e0).e ≠ 0) :
    Calls Tryz.prog 3 #[.agg #[.bool g, .slice A n c, .int .i64 e0], .int .i64 (z : Int)] w fun e w' => e = .returned (.bool true) ∧ Below w.heap.size w w' := by
  obtain ⟨⟨ng, nV, nE⟩, hO⟩ : ∃ o, nO g (val xs) e0 = o := ⟨_, rfl⟩
  have hRL := right_log hO
  dsimp only at hRL
  have a1 := below1 w (.cells #[.bool g, .slice A n c, .int .i64 e0] 24)
  have HS := Lib.hid a1
  have HT := Lib.hid (hT.below a1)
  have HXl := Lib.hid (hA.below a1)
  have HX := Lib.hid (Bd.new w 24 g A n c e0)
  have H1 := Lib.hid (lalive_any _ HT.out)
  have HO := Lib.hid hO
  have l1 : decide ((70 : Int) < (n : Int)) = false := decide_eq_false (by omega)
  have l1n : decide (70 < n) = false := decide_eq_false (by omega)
  have l2 : decide ((12 : Int) < (n : Int)) = true := decide_eq_true (by omega)
  have l2n : decide (12 < n) = true := decide_eq_true (by omega)
  have l3 : decide ((100 : Int) < (z : Int)) = false := decide_eq_false (by omega)
  have l3n : decide (100 < z) = false := decide_eq_false (by omega)
  rw [hO] at hr hc
  dsimp only at hr hc
  have HN : Hid (mk g (val xs) e0 = some ⟨ng, nV, nE⟩ ∧ LogD ⟨ng, nV, nE⟩) := hRL.1 hr
  have HR : Hid (decide (RightP ng nV nE) = true) := decide_eq_true hr
  have HSc : Hid (decide (8 ≤ (z : Int) ∧ (z : Int) ≤ 9000) = true) := decide_eq_true ⟨by omega, by omega⟩
  obtain ⟨t, ht⟩ : ∃ t, rtop nV nE = t := ⟨_, rfl⟩
  have ht' : (blen nV : Int) - 1 + nE = t := ht
  have HRt : Hid (rtop nV nE = t ∧ t = (blen nV : Int) - 1 + nE ∧ RightP ng nV nE ∧ ng = false) := ⟨ht, ht'.symm, hr, hr.2.1⟩
  have ht1 : -1048576 ≤ t := by have := hr.2.2.2.2.1; omega
  have ht2 : t ≤ 1048576 := by have := hr.2.2.2.2.2; omega
  have hE1 := hr.1.1
  have hE2 := hr.1.2
  have HEE : Hid (-1073741824 ≤ nE ∧ nE ≤ 1073741824) := ⟨hE1, hE2⟩
  obtain ⟨k, hk⟩ : ∃ k : Nat, max t (-t) = (k : Int) := ⟨t.natAbs, by omega⟩
  have wt : IntKind.i64.wrap (-t) = -t := by rw [IntKind.wrap_i64]; omega
  obtain ⟨k2, hk2⟩ : ∃ x, k + 2 = x := ⟨_, rfl⟩
  have ek2 : (k : Int) + 2 = (k2 : Int) := by omega
  obtain ⟨s2, hs2⟩ : ∃ x, 2 * z = x := ⟨_, rfl⟩
  have es2 : (2 : Int) * (z : Int) = (s2 : Int) := by omega
  obtain ⟨s8, hs8⟩ : ∃ x, s2 + 128 = x := ⟨_, rfl⟩
  have es8 : (s2 : Int) + 128 = (s8 : Int) := by omega
  have hk9 : k ≤ 1048576 := by omega
  have hk29 : k2 ≤ 1048578 := by omega
  have hs89 : s8 ≤ 18128 := by omega
  have hs29 : s2 ≤ 18000 := by omega
  obtain ⟨N, hN⟩ : ∃ x, k2 * s8 = x := ⟨_, rfl⟩
  have hN9 : N ≤ 1048578 * 18128 := by rw [← hN]; exact Nat.mul_le_mul hk29 hs89
  have eN : (k2 : Int) * (s8 : Int) = (N : Int) := by rw [← hN, Int.natCast_mul]
  have HNN : Hid ((N : Int) = ((k : Int) + 2) * (2 * (z : Int) + 128) ∧ (k : Int) = max t (-t)) := ⟨by rw [ek2, es2, es8]; exact eN.symm, hk.symm⟩
  obtain ⟨zz, hzz⟩ : ∃ x : Int, -(z : Int) = x := ⟨_, rfl⟩
  have wz : IntKind.i64.wrap (-(z : Int)) = zz := by rw [hzz, IntKind.wrap_i64]; omega
  have HZ := Lib.hid hzz
  have HC : Hid (nV = 1) := hc.1
  have eE : (nE == 0) = false := beq_no hc.2
  clear hT hA a1 hO hRL hr hc ht ht' hk2 hs2 hs8 hN hE1 hE2
  go_enter Tryz.func3, Tryz.ntmps3
  go_wp2_with fail
  refine H1.out.mono ?_
  rintro e w1 ⟨rfl, hB⟩
  replace HT : Hid (Tab w1) := HT.out.below hB
  replace HXl : Hid (Lim w1 A n c xs) := HXl.out.below hB
  replace HX : Hid (Bd w1 w.heap.size 24 g A n c e0) := HX.out.below hB
  replace HS := Lib.hid (HS.out.trans (hB.mono HS.out.size))
  clear hB H1
  have HX_0 := HX.out.c0
  have HX_1 := HX.out.c1
  have HX_2 := HX.out.c2
  have H2 := rof_any g A n c xs e0 w1 HXl.out (by omega)
  rw [HO.out] at H2
  replace H2 := Lib.hid H2
  go_wp2_with fail
  refine H2.out.mono ?_
  rintro e w2 ⟨An, mn, cn, dn, rfl, hmn, hln, hbn, hvn, hB⟩
  clear HX_0 HX_1 HX_2
  replace HT : Hid (Tab w2) := HT.out.below hB
  replace HXl : Hid (Lim w2 A n c xs) := HXl.out.below hB
  replace HX : Hid (Bd w2 w.heap.size 24 g A n c e0) := HX.out.below hB
  replace HS := Lib.hid (HS.out.trans (hB.mono HS.out.size))
  dsimp only at hvn
  have HNd : Hid (Dig w2 An mn cn dn ∧ D.Bare dn ∧ D.val dn = nV) := ⟨hln, hbn, hvn⟩
  clear hln hbn hvn hB H2
  have ba := below1 w2 (.cells #[.bool ng, .slice An mn cn, .int .i64 nE] 28)
  replace HT : Hid (Tab (w2.alloc (.cells #[.bool ng, .slice An mn cn, .int .i64 nE] 28))) := HT.out.below ba
  replace HXl : Hid (Lim (w2.alloc (.cells #[.bool ng, .slice An mn cn, .int .i64 nE] 28)) A n c xs) := HXl.out.below ba
  replace HX : Hid (Bd (w2.alloc (.cells #[.bool ng, .slice An mn cn, .int .i64 nE] 28)) w.heap.size 24 g A n c e0) := HX.out.below ba
  replace HNd : Hid (Dig (w2.alloc (.cells #[.bool ng, .slice An mn cn, .int .i64 nE] 28)) An mn cn dn ∧ D.Bare dn ∧ D.val dn = nV) := ⟨HNd.out.1.below ba, HNd.out.2⟩
  replace HS := Lib.hid (HS.out.trans (ba.mono HS.out.size))
  clear ba
  have HNb : Hid (Bd (w2.alloc (.cells #[.bool ng, .slice An mn cn, .int .i64 nE] 28)) w2.heap.size 28 ng An mn cn nE) := Bd.new w2 28 ng An mn cn nE
  have HX_0 := HX.out.c0
  have HX_1 := HX.out.c1
  have HX_2 := HX.out.c2
  have H3 := Lib.hid (log_lg g A n c xs e0 (z : Int) (w2.alloc (.cells #[.bool ng, .slice An mn cn, .int .i64 nE] 28)) HXl.out (by omega) HT.out (by omega) (by omega))
  go_wp2_with fail
  refine H3.out.mono ?_
  rintro e w3 ⟨g3a, A3a, m3a, c3a, s3a, e3a, g3b, A3b, m3b, c3b, s3b, e3b, r3, rfl, hm3a, hm3b, hl3a, hl3b, hb3a, hb3b, hB, hq⟩
  clear HX_0 HX_1 HX_2
  replace HT : Hid (Tab w3) := HT.out.below hB
  replace HXl : Hid (Lim w3 A n c xs) := HXl.out.below hB
  replace HX : Hid (Bd w3 w.heap.size 24 g A n c e0) := HX.out.below hB
  replace HNd : Hid (Dig w3 An mn cn dn ∧ D.Bare dn ∧ D.val dn = nV) := ⟨HNd.out.1.below hB, HNd.out.2⟩
  replace HNb : Hid (Bd w3 w2.heap.size 28 ng An mn cn nE) := HNb.out.below hB
  replace HS := Lib.hid (HS.out.trans (hB.mono HS.out.size))
  have HLi : Hid (Lim w3 A3a m3a c3a s3a) := hl3a
  have HHi : Hid (Lim w3 A3b m3b c3b s3b) := hl3b
  have HBi : Hid (Bare s3a ∧ Bare s3b) := ⟨hb3a, hb3b⟩
  obtain ⟨rfl, Ln, Un_, hV, hLU, hUU⟩ := logp_yes hq HN.out.1 HN.out.2 (by omega) (by omega)
  rw [Int.toNat_natCast] at hV hLU hUU
  have hf := log_far HN.out.2 hz8 hz9 hV
  have hs_a := end_short hl3a hb3a hLU hz9 hf.1
  have hs_b := end_short hl3b hb3b hUU hz9 hf.2
  have HQ : Hid (LogV ⟨ng, nV, nE⟩ z Ln Un_ ∧ Un z Ln ⟨g3a, val s3a, e3a⟩ ∧ Un z Un_ ⟨g3b, val s3b, e3b⟩ ∧ Ln.natAbs < 2 ^ (z + 64) ∧ Un_.natAbs < 2 ^ (z + 64)) := ⟨hV, hLU, hUU, far_up hf.1, far_up hf.2⟩
  clear hV hLU hUU hf
  clear hl3a hl3b hb3a hb3b hB hq H3
  have ba := below1 w3 (.cells #[.bool g3a, .slice A3a m3a c3a, .int .i64 e3a, .bool g3b, .slice A3b m3b c3b, .int .i64 e3b] 32)
  replace HT : Hid (Tab (w3.alloc (.cells #[.bool g3a, .slice A3a m3a c3a, .int .i64 e3a, .bool g3b, .slice A3b m3b c3b, .int .i64 e3b] 32))) := HT.out.below ba
  replace HXl : Hid (Lim (w3.alloc (.cells #[.bool g3a, .slice A3a m3a c3a, .int .i64 e3a, .bool g3b, .slice A3b m3b c3b, .int .i64 e3b] 32)) A n c xs) := HXl.out.below ba
  replace HX : Hid (Bd (w3.alloc (.cells #[.bool g3a, .slice A3a m3a c3a, .int .i64 e3a, .bool g3b, .slice A3b m3b c3b, .int .i64 e3b] 32)) w.heap.size 24 g A n c e0) := HX.out.below ba
  replace HNd : Hid (Dig (w3.alloc (.cells #[.bool g3a, .slice A3a m3a c3a, .int .i64 e3a, .bool g3b, .slice A3b m3b c3b, .int .i64 e3b] 32)) An mn cn dn ∧ D.Bare dn ∧ D.val dn = nV) := ⟨HNd.out.1.below ba, HNd.out.2⟩
  replace HNb : Hid (Bd (w3.alloc (.cells #[.bool g3a, .slice A3a m3a c3a, .int .i64 e3a, .bool g3b, .slice A3b m3b c3b, .int .i64 e3b] 32)) w2.heap.size 28 ng An mn cn nE) := HNb.out.below ba
  replace HLi : Hid (Lim (w3.alloc (.cells #[.bool g3a, .slice A3a m3a c3a, .int .i64 e3a, .bool g3b, .slice A3b m3b c3b, .int .i64 e3b] 32)) A3a m3a c3a s3a) := HLi.out.below ba
  replace HHi : Hid (Lim (w3.alloc (.cells #[.bool g3a, .slice A3a m3a c3a, .int .i64 e3a, .bool g3b, .slice A3b m3b c3b, .int .i64 e3b] 32)) A3b m3b c3b s3b) := HHi.out.below ba
  replace HS := Lib.hid (HS.out.trans (ba.mono HS.out.size))
  clear ba
  have HIi : Hid (Ib (w3.alloc (.cells #[.bool g3a, .slice A3a m3a c3a, .int .i64 e3a, .bool g3b, .slice A3b m3b c3b, .int .i64 e3b] 32)) w3.heap.size g3a A3a m3a c3a e3a g3b A3b m3b c3b e3b) := Ib.new w3 g3a A3a m3a c3a e3a g3b A3b m3b c3b e3b
  have HNb_0 := HNb.out.c0
  have HNb_1 := HNb.out.c1
  have HNb_2 := HNb.out.c2
  have H4 := Lib.hid (rright_l true ng An mn cn dn nE (w3.alloc (.cells #[.bool g3a, .slice A3a m3a c3a, .int .i64 e3a, .bool g3b, .slice A3b m3b c3b, .int .i64 e3b] 32)) HNd.out.1 HNd.out.2.1 (by omega) (by rw [HNd.out.2.2]; exact HR.out))
  go_wp2_with fail
  refine H4.out.mono ?_
  rintro e w4 ⟨rfl, hB⟩
  clear HNb_0 HNb_1 HNb_2
  replace HT : Hid (Tab w4) := HT.out.below hB
  replace HXl : Hid (Lim w4 A n c xs) := HXl.out.below hB
  replace HX : Hid (Bd w4 w.heap.size 24 g A n c e0) := HX.out.below hB
  replace HNd : Hid (Dig w4 An mn cn dn ∧ D.Bare dn ∧ D.val dn = nV) := ⟨HNd.out.1.below hB, HNd.out.2⟩
  replace HNb : Hid (Bd w4 w2.heap.size 28 ng An mn cn nE) := HNb.out.below hB
  replace HLi : Hid (Lim w4 A3a m3a c3a s3a) := HLi.out.below hB
  replace HHi : Hid (Lim w4 A3b m3b c3b s3b) := HHi.out.below hB
  replace HIi : Hid (Ib w4 w3.heap.size g3a A3a m3a c3a e3a g3b A3b m3b c3b e3b) := HIi.out.below hB
  replace HS := Lib.hid (HS.out.trans (hB.mono HS.out.size))
  clear hB H4
  have H5 := Lib.hid (right_l (z : Int) true w4 HSc.out)
  go_wp2_with fail
  refine H5.out.mono ?_
  rintro e w' ⟨rfl, rfl⟩
  clear H5 HSc HR
  clear HX HXl
  clear HO
  have HNb_0 := HNb.out.c0
  have HNb_1 := HNb.out.c1
  have HNb_2 := HNb.out.c2
  have H6 := Lib.hid (rtop_l t ng An mn cn dn nE w4 HNd.out.1 HNd.out.2.1 (by omega) (by have := HEE.out; omega) (by have := HEE.out; omega) (by rw [HNd.out.2.2]; exact HRt.out.1))
  go_wp2_with fail
  refine H6.out.mono ?_
  rintro e w5 ⟨rfl, hB⟩
  clear HNb_0 HNb_1 HNb_2
  replace HT : Hid (Tab w5) := HT.out.below hB
  replace HNd : Hid (Dig w5 An mn cn dn ∧ D.Bare dn ∧ D.val dn = nV) := ⟨HNd.out.1.below hB, HNd.out.2⟩
  replace HNb : Hid (Bd w5 w2.heap.size 28 ng An mn cn nE) := HNb.out.below hB
  replace HLi : Hid (Lim w5 A3a m3a c3a s3a) := HLi.out.below hB
  replace HHi : Hid (Lim w5 A3b m3b c3b s3b) := HHi.out.below hB
  replace HIi : Hid (Ib w5 w3.heap.size g3a A3a m3a c3a e3a g3b A3b m3b c3b e3b) := HIi.out.below hB
  replace HS := Lib.hid (HS.out.trans (hB.mono HS.out.size))
  clear hB H6
  have HIi_0 := HIi.out.x0
  have HIi_1 := HIi.out.x1
  have HIi_2 := HIi.out.x2
  have HIi_3 := HIi.out.x3
  have HIi_4 := HIi.out.x4
  have HIi_5 := HIi.out.x5
  have H7 := Lib.hid (lthin_l g3a A3a m3a c3a s3a e3a g3b A3b m3b c3b s3b e3b N z Ln Un_ w5 HLi.out HHi.out hm3a hm3b HT.out hz9 (by omega) HQ.out.2.1 HQ.out.2.2.1 HQ.out.2.2.2.1 HQ.out.2.2.2.2 (log_order HN.out.2 HQ.out.1) (by rw [HNN.out.1]; exact log_wide HN.out.2 HQ.out.1 (by rw [HNN.out.2, HRt.out.2.1])))
  go_wp2_with fail
  refine H7.out.mono ?_
  rintro e w6 ⟨rfl, hB⟩
  clear HIi_0 HIi_1 HIi_2 HIi_3 HIi_4 HIi_5
  replace HT : Hid (Tab w6) := HT.out.below hB
  replace HNd : Hid (Dig w6 An mn cn dn ∧ D.Bare dn ∧ D.val dn = nV) := ⟨HNd.out.1.below hB, HNd.out.2⟩
  replace HNb : Hid (Bd w6 w2.heap.size 28 ng An mn cn nE) := HNb.out.below hB
  replace HLi : Hid (Lim w6 A3a m3a c3a s3a) := HLi.out.below hB
  replace HHi : Hid (Lim w6 A3b m3b c3b s3b) := HHi.out.below hB
  replace HIi : Hid (Ib w6 w3.heap.size g3a A3a m3a c3a e3a g3b A3b m3b c3b e3b) := HIi.out.below hB
  replace HS := Lib.hid (HS.out.trans (hB.mono HS.out.size))
  clear hB H7
  have hw1 := hs_a
  clear hw1
  obtain ⟨⟨bpg, bpV, bpE⟩, n1p, _, n2p, _, _⟩ := un_nO HQ.out.2.1 hz9 HQ.out.2.2.2.1
  dsimp only at n1p n2p
  have fp : decide (bpE < zz) = false := decide_eq_false (by omega)
  have HIi_0 := HIi.out.x0
  have HIi_1 := HIi.out.x1
  have HIi_2 := HIi.out.x2
  have HIi_3 := HIi.out.x3
  have HIi_4 := HIi.out.x4
  have HIi_5 := HIi.out.x5
  have H8 := lof_l g3a A3a m3a c3a s3a e3a w6 HLi.out (by omega)
  rw [n1p] at H8
  replace H8 := Lib.hid H8
  clear n1p n2p
  go_wp2_with fail
  refine H8.out.mono ?_
  rintro e w7 ⟨A7, m7, c7, d7, rfl, hm7, hl7, hb7, hv7, hB⟩
  clear HIi_0 HIi_1 HIi_2 HIi_3 HIi_4 HIi_5
  replace HT : Hid (Tab w7) := HT.out.below hB
  replace HNd : Hid (Dig w7 An mn cn dn ∧ D.Bare dn ∧ D.val dn = nV) := ⟨HNd.out.1.below hB, HNd.out.2⟩
  replace HNb : Hid (Bd w7 w2.heap.size 28 ng An mn cn nE) := HNb.out.below hB
  replace HLi : Hid (Lim w7 A3a m3a c3a s3a) := HLi.out.below hB
  replace HHi : Hid (Lim w7 A3b m3b c3b s3b) := HHi.out.below hB
  replace HIi : Hid (Ib w7 w3.heap.size g3a A3a m3a c3a e3a g3b A3b m3b c3b e3b) := HIi.out.below hB
  replace HS := Lib.hid (HS.out.trans (hB.mono HS.out.size))
  clear hm7 hl7 hb7 hv7 hB H8
  obtain ⟨⟨brg, brV, brE⟩, n1r, _, n2r, _, _⟩ := un_nO HQ.out.2.2.1 hz9 HQ.out.2.2.2.2
  dsimp only at n1r n2r
  have fr : decide (brE < zz) = false := decide_eq_false (by omega)
  have HIi_0 := HIi.out.x0
  have HIi_1 := HIi.out.x1
  have HIi_2 := HIi.out.x2
  have HIi_3 := HIi.out.x3
  have HIi_4 := HIi.out.x4
  have HIi_5 := HIi.out.x5
  have H8 := lof_l g3b A3b m3b c3b s3b e3b w7 HHi.out (by omega)
  rw [n1r] at H8
  replace H8 := Lib.hid H8
  clear n1r n2r
  go_wp2_with fail
  refine H8.out.mono ?_
  rintro e w8 ⟨A8, m8, c8, d8, rfl, hm8, hl8, hb8, hv8, hB⟩
  clear HIi_0 HIi_1 HIi_2 HIi_3 HIi_4 HIi_5
  replace HT : Hid (Tab w8) := HT.out.below hB
  replace HNd : Hid (Dig w8 An mn cn dn ∧ D.Bare dn ∧ D.val dn = nV) := ⟨HNd.out.1.below hB, HNd.out.2⟩
  replace HNb : Hid (Bd w8 w2.heap.size 28 ng An mn cn nE) := HNb.out.below hB
  replace HLi : Hid (Lim w8 A3a m3a c3a s3a) := HLi.out.below hB
  replace HHi : Hid (Lim w8 A3b m3b c3b s3b) := HHi.out.below hB
  replace HIi : Hid (Ib w8 w3.heap.size g3a A3a m3a c3a e3a g3b A3b m3b c3b e3b) := HIi.out.below hB
  replace HS := Lib.hid (HS.out.trans (hB.mono HS.out.size))
  clear hm8 hl8 hb8 hv8 hB H8
  have bd := below_drew w8
  replace HT : Hid (Tab w8.drew) := HT.out.below bd
  replace HNd : Hid (Dig w8.drew An mn cn dn ∧ D.Bare dn ∧ D.val dn = nV) := ⟨HNd.out.1.below bd, HNd.out.2⟩
  replace HNb : Hid (Bd w8.drew w2.heap.size 28 ng An mn cn nE) := HNb.out.below bd
  replace HLi : Hid (Lim w8.drew A3a m3a c3a s3a) := HLi.out.below bd
  replace HHi : Hid (Lim w8.drew A3b m3b c3b s3b) := HHi.out.below bd
  replace HIi : Hid (Ib w8.drew w3.heap.size g3a A3a m3a c3a e3a g3b A3b m3b c3b e3b) := HIi.out.below bd
  replace HS := Lib.hid (HS.out.trans (bd.mono HS.out.size))
  clear bd
  obtain ⟨vo, hvo⟩ : ∃ v, cmpZ nV 1 = v := ⟨_, rfl⟩
  have cvo : (vo == 0) = true := beq_yes (by rw [← hvo, HC.out]; rfl)
  have Ka : Hid (∀ u, Below w8.drew.heap.size w8.drew u → Calls Tryz.prog 13 #[.int .u64 1] u (DTells u 1 4)) := fun u _ => num_any 1 (by decide) u
  have Kb : Hid (∀ u A m c ds, Below w8.drew.heap.size w8.drew u → Dig u A m c ds → D.Bare ds → D.val ds = 1 → m ≤ 4 → Calls Tryz.prog 12 #[.slice An mn cn, .slice A m c] u fun e w' => e = .returned (.int .i64 vo) ∧ Below u.heap.size u w') := fun u A m c ds hu h1 h2 h3 h4 => rcmp_v vo An mn cn dn A m c ds u (HNd.out.1.below hu) h1 HNd.out.2.1 h2 (by omega) (by omega) (by rw [HNd.out.2.2, h3]; exact hvo)
  have HW : Hid (∀ u, Below w8.drew.heap.size w8.drew u → u.cell? ⟨w2.heap.size, 1, none⟩ = some (.slice An mn cn) ∧ u.cell? ⟨w2.heap.size, 2, none⟩ = some (.int .i64 nE)) := fun u hu => ⟨(HNb.out.below hu).c1, (HNb.out.below hu).c2⟩
  have cur := Lib.hid (Below.refl w8.drew.heap.size w8.drew)
  clear hvo
  go_wp2_with fail
  go_region_held3 (fun u => u.cell? ⟨w2.heap.size, 1, none⟩ = some (.slice An mn cn) ∧ u.cell? ⟨w2.heap.size, 2, none⟩ = some (.int .i64 nE)) (with_reducible exact HW.out _ cur.out)
    (first
      | (go_at_call 13; (with_reducible refine (Ka.out _ cur.out).mono ?_); rintro e ua ⟨Aa, ma, ca, sa, rfl, hma, hla, hba, hva, hB⟩; (with_reducible (replace cur := Lib.hid (cur.out.trans (hB.mono cur.out.size)))); clear hB)
      | (go_at_call 12; (with_reducible refine (Kb.out _ Aa ma ca sa cur.out hla hba hva hma).mono ?_); rintro e ub ⟨rfl, hB⟩; (with_reducible (replace cur := Lib.hid (cur.out.trans (hB.mono cur.out.size)))); clear hB hla hba hva))
  all_goals (
    have bc := cur.out
    replace HT : Hid (Tab ub) := HT.out.below bc
    replace HNd : Hid (Dig ub An mn cn dn ∧ D.Bare dn ∧ D.val dn = nV) := ⟨HNd.out.1.below bc, HNd.out.2⟩
    replace HNb : Hid (Bd ub w2.heap.size 28 ng An mn cn nE) := HNb.out.below bc
    replace HLi : Hid (Lim ub A3a m3a c3a s3a) := HLi.out.below bc
    replace HHi : Hid (Lim ub A3b m3b c3b s3b) := HHi.out.below bc
    replace HIi : Hid (Ib ub w3.heap.size g3a A3a m3a c3a e3a g3b A3b m3b c3b e3b) := HIi.out.below bc
    replace HS := Lib.hid (HS.out.trans (bc.mono HS.out.size))
    clear bc cur Ka Kb HW
    clear HC
    have HIi_0 := HIi.out.x0
    have HIi_1 := HIi.out.x1
    have HIi_2 := HIi.out.x2
    have HIi_3 := HIi.out.x3
    have HIi_4 := HIi.out.x4
    have HIi_5 := HIi.out.x5
    by_cases h4 : 400 < z
    · have d4 : decide ((400 : Int) < (z : Int)) = true := decide_eq_true (by omega)
      have d4n : decide (400 < z) = true := decide_eq_true h4
      have Hfin := Lib.hid HS.out
      clear h4 HS HEE HNN HRt HN HQ HBi HZ hk HT HNd HNb HLi HHi HIi
      go_wp2
      go_ret
      exact ⟨rfl, Hfin.out⟩
    · have d4 : decide ((400 : Int) < (z : Int)) = false := decide_eq_false (by omega)
      have d4n : decide (400 < z) = false := decide_eq_false h4
      obtain ⟨m, hm⟩ : ∃ x, z + 80 = x := ⟨_, rfl⟩
      have em : (z : Int) + 80 = (m : Int) := by omega
      have hm9 : m ≤ 480 := by omega
      have hm3 : 3 ≤ m := by omega
      obtain ⟨Av, hAv⟩ : ∃ x, dA (2 ^ m) (dnX nV) (dnY nV) (m / 3 + 3) = x := ⟨_, rfl⟩
      obtain ⟨Tv, hTv⟩ : ∃ x, dA (2 ^ m) 1 3 (m / 3 + 3) = x := ⟨_, rfl⟩
      obtain ⟨⟨og, oV, oE⟩, o1, o2, o3⟩ := llog_l nV nE m Av Tv t HRt.out.2.2.1.2.2.1 HRt.out.2.2.1.2.2.2.1 HEE.out.1 HEE.out.2 HRt.out.1 ht1 ht2 hm3 (by omega) hAv hTv
      dsimp only at o1 o2
      have th := tell_holds HN.out.2 HQ.out.1 HRt.out.2.1 Av Tv (by rw [hm]; exact hAv) (by rw [hm]; exact hTv) _ rfl
      have tw_ := tell_worth (by omega) HQ.out.2.1 HQ.out.2.2.1 (o := ⟨og, oV, oE⟩) (f := ⟨false, docW t, -(m : Int)⟩) Av Tv (by rw [hm]; exact o1) (by rw [hm]; exact dw_us false (docW t) m) _ rfl th
      dsimp only at tw_
      have HTW := Lib.hid tw_
      have Ho3 := Lib.hid o3
      have HoE : Hid (oE = -(m : Int)) := o2
      obtain ⟨wt_, hwt⟩ : ∃ x, docW t = x := ⟨_, rfl⟩
      rw [hwt] at HTW
      have Hwt := Lib.hid hwt
      obtain ⟨mm, hmm⟩ : ∃ x : Int, -(m : Int) = x := ⟨_, rfl⟩
      rw [hmm] at HTW
      obtain rfl : false = ng := HRt.out.2.2.2.symm
      have cur := Lib.hid (below_drew ub)
      have KL : Hid (∀ u, Below ub.heap.size ub u → Calls Tryz.prog 15 #[.agg #[.bool false, .slice An mn cn, .int .i64 nE], .int .i64 (m : Int)] u (NTold u ⟨og, oV, oE⟩ 60)) := fun u hu => Ho3.out An mn cn dn u (HNd.out.1.below hu) HNd.out.2.1 HNd.out.2.2 (by omega)
      have KO : Hid (∀ u, Below ub.heap.size ub u → Calls Tryz.prog 16 #[.int .i64 t, .int .i64 (m : Int)] u (NTold u ⟨false, wt_, mm⟩ 20)) := fun u _ => by have h := loff_l t m u ht1 ht2 (by omega); rw [Hwt.out, hmm] at h; exact h
      have KH : Hid (∀ u A p d es B r b fs, Below ub.heap.size ub u → Dig u A p d es → D.Bare es → D.val es = oV → p ≤ 60 → Dig u B r b fs → D.Bare fs → D.val fs = wt_ → r ≤ 20 → Calls Tryz.prog 14 #[.agg #[.bool g3a, .slice A3a m3a c3a, .int .i64 e3a, .bool g3b, .slice A3b m3b c3b, .int .i64 e3b], .agg #[.bool og, .slice A p d, .int .i64 oE], .agg #[.bool false, .slice B r b, .int .i64 mm]] u fun e w' => e = .returned (.bool true) ∧ Below u.heap.size u w') := fun u A p d es B r b fs hu a1 a2 a3 a4 a5 a6 a7 a8 =>
        lholds_l g3a A3a m3a c3a s3a e3a g3b A3b m3b c3b s3b e3b og A p d es oE false B r b fs mm z m Ln Un_ u (HLi.out.below hu) (HHi.out.below hu) a1 a5 a2 a6 (by omega) (by omega) a4 (by omega) HoE.out hmm.symm (by omega) hz9 HQ.out.2.1 HQ.out.2.2.1 HQ.out.2.2.2.1 HQ.out.2.2.2.2 (by rw [a3, a7]; exact HTW.out.1) (by rw [a3, a7]; exact HTW.out.2)
      have HW : Hid (∀ u, Below ub.heap.size ub u → u.cell? ⟨w3.heap.size, 0, none⟩ = some (.bool g3a) ∧ u.cell? ⟨w3.heap.size, 1, none⟩ = some (.slice A3a m3a c3a) ∧ u.cell? ⟨w3.heap.size, 2, none⟩ = some (.int .i64 e3a) ∧ u.cell? ⟨w3.heap.size, 3, none⟩ = some (.bool g3b) ∧ u.cell? ⟨w3.heap.size, 4, none⟩ = some (.slice A3b m3b c3b) ∧ u.cell? ⟨w3.heap.size, 5, none⟩ = some (.int .i64 e3b) ∧ u.cell? ⟨w2.heap.size, 0, none⟩ = some (.bool false) ∧ u.cell? ⟨w2.heap.size, 1, none⟩ = some (.slice An mn cn) ∧ u.cell? ⟨w2.heap.size, 2, none⟩ = some (.int .i64 nE)) := fun u hu => ⟨(HIi.out.below hu).x0, (HIi.out.below hu).x1, (HIi.out.below hu).x2, (HIi.out.below hu).x3, (HIi.out.below hu).x4, (HIi.out.below hu).x5, (HNb.out.below hu).c0, (HNb.out.below hu).c1, (HNb.out.below hu).c2⟩
      have HSd := Lib.hid HS.out
      clear hm hAv hTv o1 o2 o3 th tw_ hwt Hwt hmm HTW Ho3 HoE h4 HS HEE HNN HRt HN HQ HBi HZ hk HT HNd HNb HLi HHi HIi
      go_wp2_with fail
      go_region_held3 (fun u => u.cell? ⟨w3.heap.size, 0, none⟩ = some (.bool g3a) ∧ u.cell? ⟨w3.heap.size, 1, none⟩ = some (.slice A3a m3a c3a) ∧ u.cell? ⟨w3.heap.size, 2, none⟩ = some (.int .i64 e3a) ∧ u.cell? ⟨w3.heap.size, 3, none⟩ = some (.bool g3b) ∧ u.cell? ⟨w3.heap.size, 4, none⟩ = some (.slice A3b m3b c3b) ∧ u.cell? ⟨w3.heap.size, 5, none⟩ = some (.int .i64 e3b) ∧ u.cell? ⟨w2.heap.size, 0, none⟩ = some (.bool false) ∧ u.cell? ⟨w2.heap.size, 1, none⟩ = some (.slice An mn cn) ∧ u.cell? ⟨w2.heap.size, 2, none⟩ = some (.int .i64 nE)) (with_reducible exact HW.out _ cur.out)
        (first
          | (go_at_call 15; (with_reducible refine (KL.out _ cur.out).mono ?_); rintro e uc ⟨Ao, mo, co, dO, rfl, hmo, hlo, hbo, hvo, hB⟩; (with_reducible (replace cur := Lib.hid (cur.out.trans (hB.mono (cur.out.size))))); have Lo_ := Lib.hid hlo; clear hlo hB)
          | (go_at_call 16; (with_reducible refine (KO.out _ cur.out).mono ?_); rintro e ud ⟨Af, mf, cf, df, rfl, hmf, hlf, hbf, hvf, hB⟩; (with_reducible (replace cur := Lib.hid (cur.out.trans (hB.mono (cur.out.size))))); replace Lo_ := Lib.hid (Lo_.out.below hB); clear hB)
          | (go_at_call 14; (with_reducible refine (KH.out _ Ao mo co dO Af mf cf df cur.out Lo_.out hbo hvo hmo hlf hbf hvf hmf).mono ?_); rintro e ue ⟨rfl, hB⟩; (with_reducible (replace cur := Lib.hid (cur.out.trans (hB.mono (cur.out.size))))); clear hB hbo hvo hlf hbf hvf))
      all_goals (
        have Hfin := Lib.hid (HSd.out.trans (cur.out.mono HSd.out.size))
        clear KL KO KH HW cur HSd Lo_
        go_wp2
        go_ret
        exact ⟨rfl, Hfin.out⟩))

set_option maxHeartbeats 8000000 in
set_option maxRecDepth 20000 in
theorem ltell_oneb (g : Bool) (A : Option Addr) (n c : Nat) (xs : List Nat) (e0 : Int) (z : Nat) (w : World) (hT : Tab w) (hA : Lim w A n c xs) (hl : n ≤ 70 ∧ 12 < n ∧ z ≤ 100) (hz8 : 8 ≤ z) (hz9 : z ≤ 9000) (hr : RightP (nO g (val xs) e0).neg (nO g (val xs) e0).V (nO g (val xs) e0).e) (hc : (nO g (val xs) e0).V = 1 ∧ (nO g (val xs) e0).e = 0) :
    Calls Tryz.prog 3 #[.agg #[.bool g, .slice A n c, .int .i64 e0], .int .i64 (z : Int)] w fun e w' => e = .returned (.bool true) ∧ Below w.heap.size w w' := by
  obtain ⟨⟨ng, nV, nE⟩, hO⟩ : ∃ o, nO g (val xs) e0 = o := ⟨_, rfl⟩
  have hRL := right_log hO
  dsimp only at hRL
  have a1 := below1 w (.cells #[.bool g, .slice A n c, .int .i64 e0] 24)
  have HS := Lib.hid a1
  have HT := Lib.hid (hT.below a1)
  have HXl := Lib.hid (hA.below a1)
  have HX := Lib.hid (Bd.new w 24 g A n c e0)
  have H1 := Lib.hid (lalive_any _ HT.out)
  have HO := Lib.hid hO
  have l1 : decide ((70 : Int) < (n : Int)) = false := decide_eq_false (by omega)
  have l1n : decide (70 < n) = false := decide_eq_false (by omega)
  have l2 : decide ((12 : Int) < (n : Int)) = true := decide_eq_true (by omega)
  have l2n : decide (12 < n) = true := decide_eq_true (by omega)
  have l3 : decide ((100 : Int) < (z : Int)) = false := decide_eq_false (by omega)
  have l3n : decide (100 < z) = false := decide_eq_false (by omega)
  rw [hO] at hr hc
  dsimp only at hr hc
  have HN : Hid (mk g (val xs) e0 = some ⟨ng, nV, nE⟩ ∧ LogD ⟨ng, nV, nE⟩) := hRL.1 hr
  have HR : Hid (decide (RightP ng nV nE) = true) := decide_eq_true hr
  have HSc : Hid (decide (8 ≤ (z : Int) ∧ (z : Int) ≤ 9000) = true) := decide_eq_true ⟨by omega, by omega⟩
  obtain ⟨t, ht⟩ : ∃ t, rtop nV nE = t := ⟨_, rfl⟩
  have ht' : (blen nV : Int) - 1 + nE = t := ht
  have HRt : Hid (rtop nV nE = t ∧ t = (blen nV : Int) - 1 + nE ∧ RightP ng nV nE ∧ ng = false) := ⟨ht, ht'.symm, hr, hr.2.1⟩
  have ht1 : -1048576 ≤ t := by have := hr.2.2.2.2.1; omega
  have ht2 : t ≤ 1048576 := by have := hr.2.2.2.2.2; omega
  have hE1 := hr.1.1
  have hE2 := hr.1.2
  have HEE : Hid (-1073741824 ≤ nE ∧ nE ≤ 1073741824) := ⟨hE1, hE2⟩
  obtain ⟨k, hk⟩ : ∃ k : Nat, max t (-t) = (k : Int) := ⟨t.natAbs, by omega⟩
  have wt : IntKind.i64.wrap (-t) = -t := by rw [IntKind.wrap_i64]; omega
  obtain ⟨k2, hk2⟩ : ∃ x, k + 2 = x := ⟨_, rfl⟩
  have ek2 : (k : Int) + 2 = (k2 : Int) := by omega
  obtain ⟨s2, hs2⟩ : ∃ x, 2 * z = x := ⟨_, rfl⟩
  have es2 : (2 : Int) * (z : Int) = (s2 : Int) := by omega
  obtain ⟨s8, hs8⟩ : ∃ x, s2 + 128 = x := ⟨_, rfl⟩
  have es8 : (s2 : Int) + 128 = (s8 : Int) := by omega
  have hk9 : k ≤ 1048576 := by omega
  have hk29 : k2 ≤ 1048578 := by omega
  have hs89 : s8 ≤ 18128 := by omega
  have hs29 : s2 ≤ 18000 := by omega
  obtain ⟨N, hN⟩ : ∃ x, k2 * s8 = x := ⟨_, rfl⟩
  have hN9 : N ≤ 1048578 * 18128 := by rw [← hN]; exact Nat.mul_le_mul hk29 hs89
  have eN : (k2 : Int) * (s8 : Int) = (N : Int) := by rw [← hN, Int.natCast_mul]
  have HNN : Hid ((N : Int) = ((k : Int) + 2) * (2 * (z : Int) + 128) ∧ (k : Int) = max t (-t)) := ⟨by rw [ek2, es2, es8]; exact eN.symm, hk.symm⟩
  obtain ⟨zz, hzz⟩ : ∃ x : Int, -(z : Int) = x := ⟨_, rfl⟩
  have wz : IntKind.i64.wrap (-(z : Int)) = zz := by rw [hzz, IntKind.wrap_i64]; omega
  have HZ := Lib.hid hzz
  have HC : Hid (nV = 1) := hc.1
  have eE : (nE == 0) = true := beq_yes hc.2
  have HC2 : Hid (nE = 0) := hc.2
  clear hT hA a1 hO hRL hr hc ht ht' hk2 hs2 hs8 hN hE1 hE2
  go_enter Tryz.func3, Tryz.ntmps3
  go_wp2_with fail
  refine H1.out.mono ?_
  rintro e w1 ⟨rfl, hB⟩
  replace HT : Hid (Tab w1) := HT.out.below hB
  replace HXl : Hid (Lim w1 A n c xs) := HXl.out.below hB
  replace HX : Hid (Bd w1 w.heap.size 24 g A n c e0) := HX.out.below hB
  replace HS := Lib.hid (HS.out.trans (hB.mono HS.out.size))
  clear hB H1
  have HX_0 := HX.out.c0
  have HX_1 := HX.out.c1
  have HX_2 := HX.out.c2
  have H2 := rof_any g A n c xs e0 w1 HXl.out (by omega)
  rw [HO.out] at H2
  replace H2 := Lib.hid H2
  go_wp2_with fail
  refine H2.out.mono ?_
  rintro e w2 ⟨An, mn, cn, dn, rfl, hmn, hln, hbn, hvn, hB⟩
  clear HX_0 HX_1 HX_2
  replace HT : Hid (Tab w2) := HT.out.below hB
  replace HXl : Hid (Lim w2 A n c xs) := HXl.out.below hB
  replace HX : Hid (Bd w2 w.heap.size 24 g A n c e0) := HX.out.below hB
  replace HS := Lib.hid (HS.out.trans (hB.mono HS.out.size))
  dsimp only at hvn
  have HNd : Hid (Dig w2 An mn cn dn ∧ D.Bare dn ∧ D.val dn = nV) := ⟨hln, hbn, hvn⟩
  clear hln hbn hvn hB H2
  have ba := below1 w2 (.cells #[.bool ng, .slice An mn cn, .int .i64 nE] 28)
  replace HT : Hid (Tab (w2.alloc (.cells #[.bool ng, .slice An mn cn, .int .i64 nE] 28))) := HT.out.below ba
  replace HXl : Hid (Lim (w2.alloc (.cells #[.bool ng, .slice An mn cn, .int .i64 nE] 28)) A n c xs) := HXl.out.below ba
  replace HX : Hid (Bd (w2.alloc (.cells #[.bool ng, .slice An mn cn, .int .i64 nE] 28)) w.heap.size 24 g A n c e0) := HX.out.below ba
  replace HNd : Hid (Dig (w2.alloc (.cells #[.bool ng, .slice An mn cn, .int .i64 nE] 28)) An mn cn dn ∧ D.Bare dn ∧ D.val dn = nV) := ⟨HNd.out.1.below ba, HNd.out.2⟩
  replace HS := Lib.hid (HS.out.trans (ba.mono HS.out.size))
  clear ba
  have HNb : Hid (Bd (w2.alloc (.cells #[.bool ng, .slice An mn cn, .int .i64 nE] 28)) w2.heap.size 28 ng An mn cn nE) := Bd.new w2 28 ng An mn cn nE
  have HX_0 := HX.out.c0
  have HX_1 := HX.out.c1
  have HX_2 := HX.out.c2
  have H3 := Lib.hid (log_lg g A n c xs e0 (z : Int) (w2.alloc (.cells #[.bool ng, .slice An mn cn, .int .i64 nE] 28)) HXl.out (by omega) HT.out (by omega) (by omega))
  go_wp2_with fail
  refine H3.out.mono ?_
  rintro e w3 ⟨g3a, A3a, m3a, c3a, s3a, e3a, g3b, A3b, m3b, c3b, s3b, e3b, r3, rfl, hm3a, hm3b, hl3a, hl3b, hb3a, hb3b, hB, hq⟩
  clear HX_0 HX_1 HX_2
  replace HT : Hid (Tab w3) := HT.out.below hB
  replace HXl : Hid (Lim w3 A n c xs) := HXl.out.below hB
  replace HX : Hid (Bd w3 w.heap.size 24 g A n c e0) := HX.out.below hB
  replace HNd : Hid (Dig w3 An mn cn dn ∧ D.Bare dn ∧ D.val dn = nV) := ⟨HNd.out.1.below hB, HNd.out.2⟩
  replace HNb : Hid (Bd w3 w2.heap.size 28 ng An mn cn nE) := HNb.out.below hB
  replace HS := Lib.hid (HS.out.trans (hB.mono HS.out.size))
  have HLi : Hid (Lim w3 A3a m3a c3a s3a) := hl3a
  have HHi : Hid (Lim w3 A3b m3b c3b s3b) := hl3b
  have HBi : Hid (Bare s3a ∧ Bare s3b) := ⟨hb3a, hb3b⟩
  obtain ⟨rfl, Ln, Un_, hV, hLU, hUU⟩ := logp_yes hq HN.out.1 HN.out.2 (by omega) (by omega)
  rw [Int.toNat_natCast] at hV hLU hUU
  have hf := log_far HN.out.2 hz8 hz9 hV
  have hs_a := end_short hl3a hb3a hLU hz9 hf.1
  have hs_b := end_short hl3b hb3b hUU hz9 hf.2
  have HQ : Hid (LogV ⟨ng, nV, nE⟩ z Ln Un_ ∧ Un z Ln ⟨g3a, val s3a, e3a⟩ ∧ Un z Un_ ⟨g3b, val s3b, e3b⟩ ∧ Ln.natAbs < 2 ^ (z + 64) ∧ Un_.natAbs < 2 ^ (z + 64)) := ⟨hV, hLU, hUU, far_up hf.1, far_up hf.2⟩
  clear hV hLU hUU hf
  clear hl3a hl3b hb3a hb3b hB hq H3
  have ba := below1 w3 (.cells #[.bool g3a, .slice A3a m3a c3a, .int .i64 e3a, .bool g3b, .slice A3b m3b c3b, .int .i64 e3b] 32)
  replace HT : Hid (Tab (w3.alloc (.cells #[.bool g3a, .slice A3a m3a c3a, .int .i64 e3a, .bool g3b, .slice A3b m3b c3b, .int .i64 e3b] 32))) := HT.out.below ba
  replace HXl : Hid (Lim (w3.alloc (.cells #[.bool g3a, .slice A3a m3a c3a, .int .i64 e3a, .bool g3b, .slice A3b m3b c3b, .int .i64 e3b] 32)) A n c xs) := HXl.out.below ba
  replace HX : Hid (Bd (w3.alloc (.cells #[.bool g3a, .slice A3a m3a c3a, .int .i64 e3a, .bool g3b, .slice A3b m3b c3b, .int .i64 e3b] 32)) w.heap.size 24 g A n c e0) := HX.out.below ba
  replace HNd : Hid (Dig (w3.alloc (.cells #[.bool g3a, .slice A3a m3a c3a, .int .i64 e3a, .bool g3b, .slice A3b m3b c3b, .int .i64 e3b] 32)) An mn cn dn ∧ D.Bare dn ∧ D.val dn = nV) := ⟨HNd.out.1.below ba, HNd.out.2⟩
  replace HNb : Hid (Bd (w3.alloc (.cells #[.bool g3a, .slice A3a m3a c3a, .int .i64 e3a, .bool g3b, .slice A3b m3b c3b, .int .i64 e3b] 32)) w2.heap.size 28 ng An mn cn nE) := HNb.out.below ba
  replace HLi : Hid (Lim (w3.alloc (.cells #[.bool g3a, .slice A3a m3a c3a, .int .i64 e3a, .bool g3b, .slice A3b m3b c3b, .int .i64 e3b] 32)) A3a m3a c3a s3a) := HLi.out.below ba
  replace HHi : Hid (Lim (w3.alloc (.cells #[.bool g3a, .slice A3a m3a c3a, .int .i64 e3a, .bool g3b, .slice A3b m3b c3b, .int .i64 e3b] 32)) A3b m3b c3b s3b) := HHi.out.below ba
  replace HS := Lib.hid (HS.out.trans (ba.mono HS.out.size))
  clear ba
  have HIi : Hid (Ib (w3.alloc (.cells #[.bool g3a, .slice A3a m3a c3a, .int .i64 e3a, .bool g3b, .slice A3b m3b c3b, .int .i64 e3b] 32)) w3.heap.size g3a A3a m3a c3a e3a g3b A3b m3b c3b e3b) := Ib.new w3 g3a A3a m3a c3a e3a g3b A3b m3b c3b e3b
  have HNb_0 := HNb.out.c0
  have HNb_1 := HNb.out.c1
  have HNb_2 := HNb.out.c2
  have H4 := Lib.hid (rright_l true ng An mn cn dn nE (w3.alloc (.cells #[.bool g3a, .slice A3a m3a c3a, .int .i64 e3a, .bool g3b, .slice A3b m3b c3b, .int .i64 e3b] 32)) HNd.out.1 HNd.out.2.1 (by omega) (by rw [HNd.out.2.2]; exact HR.out))
  go_wp2_with fail
  refine H4.out.mono ?_
  rintro e w4 ⟨rfl, hB⟩
  clear HNb_0 HNb_1 HNb_2
  replace HT : Hid (Tab w4) := HT.out.below hB
  replace HXl : Hid (Lim w4 A n c xs) := HXl.out.below hB
  replace HX : Hid (Bd w4 w.heap.size 24 g A n c e0) := HX.out.below hB
  replace HNd : Hid (Dig w4 An mn cn dn ∧ D.Bare dn ∧ D.val dn = nV) := ⟨HNd.out.1.below hB, HNd.out.2⟩
  replace HNb : Hid (Bd w4 w2.heap.size 28 ng An mn cn nE) := HNb.out.below hB
  replace HLi : Hid (Lim w4 A3a m3a c3a s3a) := HLi.out.below hB
  replace HHi : Hid (Lim w4 A3b m3b c3b s3b) := HHi.out.below hB
  replace HIi : Hid (Ib w4 w3.heap.size g3a A3a m3a c3a e3a g3b A3b m3b c3b e3b) := HIi.out.below hB
  replace HS := Lib.hid (HS.out.trans (hB.mono HS.out.size))
  clear hB H4
  have H5 := Lib.hid (right_l (z : Int) true w4 HSc.out)
  go_wp2_with fail
  refine H5.out.mono ?_
  rintro e w' ⟨rfl, rfl⟩
  clear H5 HSc HR
  clear HX HXl
  clear HO
  have HNb_0 := HNb.out.c0
  have HNb_1 := HNb.out.c1
  have HNb_2 := HNb.out.c2
  have H6 := Lib.hid (rtop_l t ng An mn cn dn nE w4 HNd.out.1 HNd.out.2.1 (by omega) (by have := HEE.out; omega) (by have := HEE.out; omega) (by rw [HNd.out.2.2]; exact HRt.out.1))
  go_wp2_with fail
  refine H6.out.mono ?_
  rintro e w5 ⟨rfl, hB⟩
  clear HNb_0 HNb_1 HNb_2
  replace HT : Hid (Tab w5) := HT.out.below hB
  replace HNd : Hid (Dig w5 An mn cn dn ∧ D.Bare dn ∧ D.val dn = nV) := ⟨HNd.out.1.below hB, HNd.out.2⟩
  replace HNb : Hid (Bd w5 w2.heap.size 28 ng An mn cn nE) := HNb.out.below hB
  replace HLi : Hid (Lim w5 A3a m3a c3a s3a) := HLi.out.below hB
  replace HHi : Hid (Lim w5 A3b m3b c3b s3b) := HHi.out.below hB
  replace HIi : Hid (Ib w5 w3.heap.size g3a A3a m3a c3a e3a g3b A3b m3b c3b e3b) := HIi.out.below hB
  replace HS := Lib.hid (HS.out.trans (hB.mono HS.out.size))
  clear hB H6
  have HIi_0 := HIi.out.x0
  have HIi_1 := HIi.out.x1
  have HIi_2 := HIi.out.x2
  have HIi_3 := HIi.out.x3
  have HIi_4 := HIi.out.x4
  have HIi_5 := HIi.out.x5
  have H7 := Lib.hid (lthin_l g3a A3a m3a c3a s3a e3a g3b A3b m3b c3b s3b e3b N z Ln Un_ w5 HLi.out HHi.out hm3a hm3b HT.out hz9 (by omega) HQ.out.2.1 HQ.out.2.2.1 HQ.out.2.2.2.1 HQ.out.2.2.2.2 (log_order HN.out.2 HQ.out.1) (by rw [HNN.out.1]; exact log_wide HN.out.2 HQ.out.1 (by rw [HNN.out.2, HRt.out.2.1])))
  go_wp2_with fail
  refine H7.out.mono ?_
  rintro e w6 ⟨rfl, hB⟩
  clear HIi_0 HIi_1 HIi_2 HIi_3 HIi_4 HIi_5
  replace HT : Hid (Tab w6) := HT.out.below hB
  replace HNd : Hid (Dig w6 An mn cn dn ∧ D.Bare dn ∧ D.val dn = nV) := ⟨HNd.out.1.below hB, HNd.out.2⟩
  replace HNb : Hid (Bd w6 w2.heap.size 28 ng An mn cn nE) := HNb.out.below hB
  replace HLi : Hid (Lim w6 A3a m3a c3a s3a) := HLi.out.below hB
  replace HHi : Hid (Lim w6 A3b m3b c3b s3b) := HHi.out.below hB
  replace HIi : Hid (Ib w6 w3.heap.size g3a A3a m3a c3a e3a g3b A3b m3b c3b e3b) := HIi.out.below hB
  replace HS := Lib.hid (HS.out.trans (hB.mono HS.out.size))
  clear hB H7
  have hw1 := hs_a
  clear hw1
  obtain ⟨⟨bpg, bpV, bpE⟩, n1p, _, n2p, _, _⟩ := un_nO HQ.out.2.1 hz9 HQ.out.2.2.2.1
  dsimp only at n1p n2p
  have fp : decide (bpE < zz) = false := decide_eq_false (by omega)
  have HIi_0 := HIi.out.x0
  have HIi_1 := HIi.out.x1
  have HIi_2 := HIi.out.x2
  have HIi_3 := HIi.out.x3
  have HIi_4 := HIi.out.x4
  have HIi_5 := HIi.out.x5
  have H8 := lof_l g3a A3a m3a c3a s3a e3a w6 HLi.out (by omega)
  rw [n1p] at H8
  replace H8 := Lib.hid H8
  clear n1p n2p
  go_wp2_with fail
  refine H8.out.mono ?_
  rintro e w7 ⟨A7, m7, c7, d7, rfl, hm7, hl7, hb7, hv7, hB⟩
  clear HIi_0 HIi_1 HIi_2 HIi_3 HIi_4 HIi_5
  replace HT : Hid (Tab w7) := HT.out.below hB
  replace HNd : Hid (Dig w7 An mn cn dn ∧ D.Bare dn ∧ D.val dn = nV) := ⟨HNd.out.1.below hB, HNd.out.2⟩
  replace HNb : Hid (Bd w7 w2.heap.size 28 ng An mn cn nE) := HNb.out.below hB
  replace HLi : Hid (Lim w7 A3a m3a c3a s3a) := HLi.out.below hB
  replace HHi : Hid (Lim w7 A3b m3b c3b s3b) := HHi.out.below hB
  replace HIi : Hid (Ib w7 w3.heap.size g3a A3a m3a c3a e3a g3b A3b m3b c3b e3b) := HIi.out.below hB
  replace HS := Lib.hid (HS.out.trans (hB.mono HS.out.size))
  clear hm7 hl7 hb7 hv7 hB H8
  obtain ⟨⟨brg, brV, brE⟩, n1r, _, n2r, _, _⟩ := un_nO HQ.out.2.2.1 hz9 HQ.out.2.2.2.2
  dsimp only at n1r n2r
  have fr : decide (brE < zz) = false := decide_eq_false (by omega)
  have HIi_0 := HIi.out.x0
  have HIi_1 := HIi.out.x1
  have HIi_2 := HIi.out.x2
  have HIi_3 := HIi.out.x3
  have HIi_4 := HIi.out.x4
  have HIi_5 := HIi.out.x5
  have H8 := lof_l g3b A3b m3b c3b s3b e3b w7 HHi.out (by omega)
  rw [n1r] at H8
  replace H8 := Lib.hid H8
  clear n1r n2r
  go_wp2_with fail
  refine H8.out.mono ?_
  rintro e w8 ⟨A8, m8, c8, d8, rfl, hm8, hl8, hb8, hv8, hB⟩
  clear HIi_0 HIi_1 HIi_2 HIi_3 HIi_4 HIi_5
  replace HT : Hid (Tab w8) := HT.out.below hB
  replace HNd : Hid (Dig w8 An mn cn dn ∧ D.Bare dn ∧ D.val dn = nV) := ⟨HNd.out.1.below hB, HNd.out.2⟩
  replace HNb : Hid (Bd w8 w2.heap.size 28 ng An mn cn nE) := HNb.out.below hB
  replace HLi : Hid (Lim w8 A3a m3a c3a s3a) := HLi.out.below hB
  replace HHi : Hid (Lim w8 A3b m3b c3b s3b) := HHi.out.below hB
  replace HIi : Hid (Ib w8 w3.heap.size g3a A3a m3a c3a e3a g3b A3b m3b c3b e3b) := HIi.out.below hB
  replace HS := Lib.hid (HS.out.trans (hB.mono HS.out.size))
  clear hm8 hl8 hb8 hv8 hB H8
  have bd := below_drew w8
  replace HT : Hid (Tab w8.drew) := HT.out.below bd
  replace HNd : Hid (Dig w8.drew An mn cn dn ∧ D.Bare dn ∧ D.val dn = nV) := ⟨HNd.out.1.below bd, HNd.out.2⟩
  replace HNb : Hid (Bd w8.drew w2.heap.size 28 ng An mn cn nE) := HNb.out.below bd
  replace HLi : Hid (Lim w8.drew A3a m3a c3a s3a) := HLi.out.below bd
  replace HHi : Hid (Lim w8.drew A3b m3b c3b s3b) := HHi.out.below bd
  replace HIi : Hid (Ib w8.drew w3.heap.size g3a A3a m3a c3a e3a g3b A3b m3b c3b e3b) := HIi.out.below bd
  replace HS := Lib.hid (HS.out.trans (bd.mono HS.out.size))
  clear bd
  obtain ⟨vo, hvo⟩ : ∃ v, cmpZ nV 1 = v := ⟨_, rfl⟩
  have cvo : (vo == 0) = true := beq_yes (by rw [← hvo, HC.out]; rfl)
  have Ka : Hid (∀ u, Below w8.drew.heap.size w8.drew u → Calls Tryz.prog 13 #[.int .u64 1] u (DTells u 1 4)) := fun u _ => num_any 1 (by decide) u
  have Kb : Hid (∀ u A m c ds, Below w8.drew.heap.size w8.drew u → Dig u A m c ds → D.Bare ds → D.val ds = 1 → m ≤ 4 → Calls Tryz.prog 12 #[.slice An mn cn, .slice A m c] u fun e w' => e = .returned (.int .i64 vo) ∧ Below u.heap.size u w') := fun u A m c ds hu h1 h2 h3 h4 => rcmp_v vo An mn cn dn A m c ds u (HNd.out.1.below hu) h1 HNd.out.2.1 h2 (by omega) (by omega) (by rw [HNd.out.2.2, h3]; exact hvo)
  have HW : Hid (∀ u, Below w8.drew.heap.size w8.drew u → u.cell? ⟨w2.heap.size, 1, none⟩ = some (.slice An mn cn) ∧ u.cell? ⟨w2.heap.size, 2, none⟩ = some (.int .i64 nE)) := fun u hu => ⟨(HNb.out.below hu).c1, (HNb.out.below hu).c2⟩
  have cur := Lib.hid (Below.refl w8.drew.heap.size w8.drew)
  clear hvo
  go_wp2_with fail
  go_region_held3 (fun u => u.cell? ⟨w2.heap.size, 1, none⟩ = some (.slice An mn cn) ∧ u.cell? ⟨w2.heap.size, 2, none⟩ = some (.int .i64 nE)) (with_reducible exact HW.out _ cur.out)
    (first
      | (go_at_call 13; (with_reducible refine (Ka.out _ cur.out).mono ?_); rintro e ua ⟨Aa, ma, ca, sa, rfl, hma, hla, hba, hva, hB⟩; (with_reducible (replace cur := Lib.hid (cur.out.trans (hB.mono cur.out.size)))); clear hB)
      | (go_at_call 12; (with_reducible refine (Kb.out _ Aa ma ca sa cur.out hla hba hva hma).mono ?_); rintro e ub ⟨rfl, hB⟩; (with_reducible (replace cur := Lib.hid (cur.out.trans (hB.mono cur.out.size)))); clear hB hla hba hva))
  all_goals (
    have bc := cur.out
    replace HT : Hid (Tab ub) := HT.out.below bc
    replace HNd : Hid (Dig ub An mn cn dn ∧ D.Bare dn ∧ D.val dn = nV) := ⟨HNd.out.1.below bc, HNd.out.2⟩
    replace HNb : Hid (Bd ub w2.heap.size 28 ng An mn cn nE) := HNb.out.below bc
    replace HLi : Hid (Lim ub A3a m3a c3a s3a) := HLi.out.below bc
    replace HHi : Hid (Lim ub A3b m3b c3b s3b) := HHi.out.below bc
    replace HIi : Hid (Ib ub w3.heap.size g3a A3a m3a c3a e3a g3b A3b m3b c3b e3b) := HIi.out.below bc
    replace HS := Lib.hid (HS.out.trans (bc.mono HS.out.size))
    clear bc cur Ka Kb HW
    obtain ⟨hz1, hz2⟩ := log_one HN.out.2 HC.out HC2.out HQ.out.1
    subst hz1 hz2
    have hm0 := end_nought HLi.out HBi.out.1 HQ.out.2.1 hz9
    have hm1 := end_nought HHi.out HBi.out.2 HQ.out.2.2.1 hz9
    obtain rfl : m3a = 0 := hm0
    obtain rfl : m3b = 0 := hm1
    clear HC HC2
    have HIi_0 := HIi.out.x0
    have HIi_1 := HIi.out.x1
    have HIi_2 := HIi.out.x2
    have HIi_3 := HIi.out.x3
    have HIi_4 := HIi.out.x4
    have HIi_5 := HIi.out.x5
    by_cases h4 : 400 < z
    · have d4 : decide ((400 : Int) < (z : Int)) = true := decide_eq_true (by omega)
      have d4n : decide (400 < z) = true := decide_eq_true h4
      have Hfin := Lib.hid HS.out
      clear h4 HS HEE HNN HRt HN HQ HBi HZ hk HT HNd HNb HLi HHi HIi
      go_wp2
      go_ret
      exact ⟨rfl, Hfin.out⟩
    · have d4 : decide ((400 : Int) < (z : Int)) = false := decide_eq_false (by omega)
      have d4n : decide (400 < z) = false := decide_eq_false h4
      obtain ⟨m, hm⟩ : ∃ x, z + 80 = x := ⟨_, rfl⟩
      have em : (z : Int) + 80 = (m : Int) := by omega
      have hm9 : m ≤ 480 := by omega
      have hm3 : 3 ≤ m := by omega
      obtain ⟨Av, hAv⟩ : ∃ x, dA (2 ^ m) (dnX nV) (dnY nV) (m / 3 + 3) = x := ⟨_, rfl⟩
      obtain ⟨Tv, hTv⟩ : ∃ x, dA (2 ^ m) 1 3 (m / 3 + 3) = x := ⟨_, rfl⟩
      obtain ⟨⟨og, oV, oE⟩, o1, o2, o3⟩ := llog_l nV nE m Av Tv t HRt.out.2.2.1.2.2.1 HRt.out.2.2.1.2.2.2.1 HEE.out.1 HEE.out.2 HRt.out.1 ht1 ht2 hm3 (by omega) hAv hTv
      dsimp only at o1 o2
      have th := tell_holds HN.out.2 HQ.out.1 HRt.out.2.1 Av Tv (by rw [hm]; exact hAv) (by rw [hm]; exact hTv) _ rfl
      have tw_ := tell_worth (by omega) HQ.out.2.1 HQ.out.2.2.1 (o := ⟨og, oV, oE⟩) (f := ⟨false, docW t, -(m : Int)⟩) Av Tv (by rw [hm]; exact o1) (by rw [hm]; exact dw_us false (docW t) m) _ rfl th
      dsimp only at tw_
      have HTW := Lib.hid tw_
      have Ho3 := Lib.hid o3
      have HoE : Hid (oE = -(m : Int)) := o2
      obtain ⟨wt_, hwt⟩ : ∃ x, docW t = x := ⟨_, rfl⟩
      rw [hwt] at HTW
      have Hwt := Lib.hid hwt
      obtain ⟨mm, hmm⟩ : ∃ x : Int, -(m : Int) = x := ⟨_, rfl⟩
      rw [hmm] at HTW
      obtain rfl : false = ng := HRt.out.2.2.2.symm
      have cur := Lib.hid (below_drew ub)
      have KL : Hid (∀ u, Below ub.heap.size ub u → Calls Tryz.prog 15 #[.agg #[.bool false, .slice An mn cn, .int .i64 nE], .int .i64 (m : Int)] u (NTold u ⟨og, oV, oE⟩ 60)) := fun u hu => Ho3.out An mn cn dn u (HNd.out.1.below hu) HNd.out.2.1 HNd.out.2.2 (by omega)
      have KO : Hid (∀ u, Below ub.heap.size ub u → Calls Tryz.prog 16 #[.int .i64 t, .int .i64 (m : Int)] u (NTold u ⟨false, wt_, mm⟩ 20)) := fun u _ => by have h := loff_l t m u ht1 ht2 (by omega); rw [Hwt.out, hmm] at h; exact h
      have KH : Hid (∀ u A p d es B r b fs, Below ub.heap.size ub u → Dig u A p d es → D.Bare es → D.val es = oV → p ≤ 60 → Dig u B r b fs → D.Bare fs → D.val fs = wt_ → r ≤ 20 → Calls Tryz.prog 14 #[.agg #[.bool g3a, .slice A3a 0 c3a, .int .i64 e3a, .bool g3b, .slice A3b 0 c3b, .int .i64 e3b], .agg #[.bool og, .slice A p d, .int .i64 oE], .agg #[.bool false, .slice B r b, .int .i64 mm]] u fun e w' => e = .returned (.bool true) ∧ Below u.heap.size u w') := fun u A p d es B r b fs hu a1 a2 a3 a4 a5 a6 a7 a8 =>
        lholds_l g3a A3a 0 c3a s3a e3a g3b A3b 0 c3b s3b e3b og A p d es oE false B r b fs mm z m 0 0 u (HLi.out.below hu) (HHi.out.below hu) a1 a5 a2 a6 (by omega) (by omega) a4 (by omega) HoE.out hmm.symm (by omega) hz9 HQ.out.2.1 HQ.out.2.2.1 HQ.out.2.2.2.1 HQ.out.2.2.2.2 (by rw [a3, a7]; exact HTW.out.1) (by rw [a3, a7]; exact HTW.out.2)
      have HW : Hid (∀ u, Below ub.heap.size ub u → u.cell? ⟨w3.heap.size, 0, none⟩ = some (.bool g3a) ∧ u.cell? ⟨w3.heap.size, 1, none⟩ = some (.slice A3a 0 c3a) ∧ u.cell? ⟨w3.heap.size, 2, none⟩ = some (.int .i64 e3a) ∧ u.cell? ⟨w3.heap.size, 3, none⟩ = some (.bool g3b) ∧ u.cell? ⟨w3.heap.size, 4, none⟩ = some (.slice A3b 0 c3b) ∧ u.cell? ⟨w3.heap.size, 5, none⟩ = some (.int .i64 e3b) ∧ u.cell? ⟨w2.heap.size, 0, none⟩ = some (.bool false) ∧ u.cell? ⟨w2.heap.size, 1, none⟩ = some (.slice An mn cn) ∧ u.cell? ⟨w2.heap.size, 2, none⟩ = some (.int .i64 nE)) := fun u hu => ⟨(HIi.out.below hu).x0, (HIi.out.below hu).x1, (HIi.out.below hu).x2, (HIi.out.below hu).x3, (HIi.out.below hu).x4, (HIi.out.below hu).x5, (HNb.out.below hu).c0, (HNb.out.below hu).c1, (HNb.out.below hu).c2⟩
      have HSd := Lib.hid HS.out
      clear hm hAv hTv o1 o2 o3 th tw_ hwt Hwt hmm HTW Ho3 HoE h4 HS HEE HNN HRt HN HQ HBi HZ hk HT HNd HNb HLi HHi HIi
      go_wp2_with fail
      go_region_held3 (fun u => u.cell? ⟨w3.heap.size, 0, none⟩ = some (.bool g3a) ∧ u.cell? ⟨w3.heap.size, 1, none⟩ = some (.slice A3a 0 c3a) ∧ u.cell? ⟨w3.heap.size, 2, none⟩ = some (.int .i64 e3a) ∧ u.cell? ⟨w3.heap.size, 3, none⟩ = some (.bool g3b) ∧ u.cell? ⟨w3.heap.size, 4, none⟩ = some (.slice A3b 0 c3b) ∧ u.cell? ⟨w3.heap.size, 5, none⟩ = some (.int .i64 e3b) ∧ u.cell? ⟨w2.heap.size, 0, none⟩ = some (.bool false) ∧ u.cell? ⟨w2.heap.size, 1, none⟩ = some (.slice An mn cn) ∧ u.cell? ⟨w2.heap.size, 2, none⟩ = some (.int .i64 nE)) (with_reducible exact HW.out _ cur.out)
        (first
          | (go_at_call 15; (with_reducible refine (KL.out _ cur.out).mono ?_); rintro e uc ⟨Ao, mo, co, dO, rfl, hmo, hlo, hbo, hvo, hB⟩; (with_reducible (replace cur := Lib.hid (cur.out.trans (hB.mono (cur.out.size))))); have Lo_ := Lib.hid hlo; clear hlo hB)
          | (go_at_call 16; (with_reducible refine (KO.out _ cur.out).mono ?_); rintro e ud ⟨Af, mf, cf, df, rfl, hmf, hlf, hbf, hvf, hB⟩; (with_reducible (replace cur := Lib.hid (cur.out.trans (hB.mono (cur.out.size))))); replace Lo_ := Lib.hid (Lo_.out.below hB); clear hB)
          | (go_at_call 14; (with_reducible refine (KH.out _ Ao mo co dO Af mf cf df cur.out Lo_.out hbo hvo hmo hlf hbf hvf hmf).mono ?_); rintro e ue ⟨rfl, hB⟩; (with_reducible (replace cur := Lib.hid (cur.out.trans (hB.mono (cur.out.size))))); clear hB hbo hvo hlf hbf hvf))
      all_goals (
        have Hfin := Lib.hid (HSd.out.trans (cur.out.mono HSd.out.size))
        clear KL KO KH HW cur HSd Lo_
        go_wp2
        go_ret
        exact ⟨rfl, Hfin.out⟩))

end Go.Proofs.YtpbggonfdaealaaGreatDoor
