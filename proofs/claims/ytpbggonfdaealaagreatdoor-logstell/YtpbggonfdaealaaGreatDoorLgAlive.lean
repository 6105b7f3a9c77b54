/- The walk of planimeterlaw13.alive (written by law_lalive.py). -/
import Derived.Test.YtpbggonfdaealaaGreatDoorLgLogW
import Derived.Test.YtpbggonfdaealaaGreatDoorRtOf
namespace Go.Proofs.YtpbggonfdaealaaGreatDoor
open Go.RowKit

theorem logp_yes {g : Bool} {V : Nat} {e0 s : Int} {d1 d2 d : Dy} {r : Int} {m1 m2 : Nat} (h : LogP g V e0 s d1 d2 r m1 m2) (hm : mk g V e0 = some d) (hd : LogD d) (hs1 : 8 ≤ s) (hs2 : s ≤ 9000) : r = 0 ∧ ∃ L H, LogV d s.toNat L H ∧ Un s.toNat L d1 ∧ Un s.toNat H d2 := by
  rcases h with ⟨d', L, H, k1, k2, k3, k4, k5, k6, k7⟩ | ⟨k1, _⟩
  · rw [hm] at k1
    obtain rfl := Option.some.inj k1
    exact ⟨k4, L, H, k5, k6, k7⟩
  · exact absurd ⟨⟨d, hm, hd⟩, hs1, hs2⟩ k1
theorem logp_no {g : Bool} {V : Nat} {e0 s : Int} {d1 d2 : Dy} {r : Int} {m1 m2 : Nat} (h : LogP g V e0 s d1 d2 r m1 m2) (hn : ¬ ((∃ d, mk g V e0 = some d ∧ LogD d) ∧ 8 ≤ s ∧ s ≤ 9000)) : r = 1 ∧ m1 = 0 ∧ m2 = 0 := by
  rcases h with ⟨d', L, H, k1, k2, k3, k4, k5, k6, k7⟩ | ⟨_, k1⟩
  · exact absurd ⟨⟨d', k1, k2⟩, k3⟩ hn
  · exact k1
theorem logd_one (e : Int) (h1 : -1048576 ≤ e) (h2 : e ≤ 1048576) : LogD ⟨false, 1, e⟩ := by
  have b1 : blen 1 = 1 := rfl
  refine ⟨⟨by show -1073741824 ≤ e; omega, by show e ≤ 1073741824; omega, fun h => by cases h⟩, rfl, by show (1 : Nat) ≠ 0; decide, by show blen 1 ≤ 4000; omega, ?_, ?_⟩
  · show -1048576 ≤ (blen 1 : Int) - 1 + e
    omega
  · show (blen 1 : Int) - 1 + e ≤ 1048576
    omega
theorem ln2_pos {s lo hi : Nat} (hs : 8 ≤ s) (h1 : AtV false 1 3 (s + 1) lo) (h2 : AtV true 1 3 (s + 1) hi) : 0 < lo := by
  obtain ⟨hB, h3, h4⟩ := ln2_both h1 h2
  obtain ⟨x, hx⟩ : ∃ x : Rat, 3 * x = 1 := ⟨1 / 3, by grind⟩
  have k := (hB x hx).2 1
  have t : atS x 1 = x := by
    unfold atS
    simp only [hh]
    have e1 : ((2 * 0 + 1 : Nat) : Rat) = 1 := by exact_mod_cast rfl
    rw [e1]
    grind
  rw [t] at k
  have hW : 256 ≤ 2 ^ s := Nat.le_trans (show 256 ≤ 2 ^ 8 by decide) (Nat.pow_le_pow_right (by decide) hs)
  have hW' : (256 : Rat) ≤ ((2 ^ s : Nat) : Rat) := by exact_mod_cast hW
  have k2 : (6 : Rat) < (hi : Rat) := by
    generalize ((2 ^ s : Nat) : Rat) = W at *
    have hx' : x = 1 / 3 := by grind
    rw [hx'] at k
    grind
  have k3 : 6 < hi := by exact_mod_cast k2
  omega
theorem logv_two {L H : Int} {lo hi : Nat} (h : LogV ⟨false, 1, 1⟩ 64 L H) (h1 : AtV false 1 3 (64 + 1) lo) (h2 : AtV true 1 3 (64 + 1) hi) : L = (lo : Int) ∧ H = (hi : Int) ∧ 0 < L := by
  obtain ⟨n1, n2, n3, n4⟩ := np_one
  obtain ⟨L0, H0, hS, _, h3⟩ := h
  obtain ⟨rfl, rfl⟩ := h3 n2 n3 rfl
  have hS' : SumV ((1 : Int) + (npE 1 : Int)) (npX 1) (npY 1) (npN 1) 64 L H := hS
  rw [n1, n2, n3, n4] at hS'
  obtain ⟨l2, g2, a, b, v1, v2, hB, w1, w2, k, hL, hH⟩ := hS'
  obtain ⟨rfl, rfl⟩ := k rfl
  obtain rfl := atv_uniq v1 h1
  obtain rfl := atv_uniq v2 h2
  have p := ln2_pos (by decide) h1 h2
  have e1 : L = (l2 : Int) := by rw [hL]; simp
  have e2 : H = (g2 : Int) := by rw [hH]; simp
  exact ⟨e1, e2, by omega⟩
theorem un_sg {s : Nat} {L : Int} {d : Dy} (h : Un s L d) : sgD d.neg d.V = cmpI L 0 := by
  have k := sgD_spec d.neg d.V d.e
  have w := h.2.2
  have u : (0 : Int) < (us s : Int) := by have := us_pos s; omega
  rcases Int.lt_trichotomy L 0 with h0 | h0 | h0
  · have : L * (us s : Int) < 0 := Int.mul_neg_of_neg_of_pos h0 u
    rw [cmpI_lt h0]
    omega
  · rw [h0, Int.zero_mul] at w
    rw [cmpI_eq h0]
    omega
  · have : 0 < L * (us s : Int) := Int.mul_pos h0 u
    rw [cmpI_gt h0]
    omega

set_option maxHeartbeats 4000000 in
set_option maxRecDepth 20000 in
theorem lalive_any (w : World) (hT : Tab w) : Calls Tryz.prog 4 #[] w fun e w' => e = .returned (.bool true) ∧ Below w.heap.size w w' := by
  have HT := Lib.hid hT
  have HS := Lib.hid (Below.refl w.heap.size w)
  have H1 := Lib.hid (dof_nat 2 (by decide) false 1 1 w hT rfl)
  clear hT
  go_enter Tryz.func4, Tryz.ntmps4
  go_wp2_with fail
  refine H1.out.mono ?_
  rintro e w1 ⟨A1, m1, c1, d1, rfl, hm1, hl1, hb1, hv1, hB⟩
  replace HT : Hid (Tab w1) := HT.out.below hB
  replace HS := Lib.hid (HS.out.trans (hB.mono HS.out.size))
  have HD : Hid (Lim w1 A1 m1 c1 d1) := hl1
  have HDv : Hid (Bare d1 ∧ val d1 = 1) := ⟨hb1, hv1⟩
  clear hl1 hb1 hv1 hB H1
  have H2 := log_lg false A1 m1 c1 d1 1 64 w1 HD.out (by omega) HT.out (by decide) (by decide)
  rw [HDv.out.2] at H2
  replace H2 := Lib.hid H2
  go_wp2_with fail
  refine H2.out.mono ?_
  rintro e w2 ⟨g2a, A2a, m2a, c2a, s2a, e2a, g2b, A2b, m2b, c2b, s2b, e2b, r2, rfl, hm2a, hm2b, hl2a, hl2b, hb2a, hb2b, hB, hq⟩
  replace HT : Hid (Tab w2) := HT.out.below hB
  replace HD : Hid (Lim w2 A1 m1 c1 d1) := HD.out.below hB
  replace HS := Lib.hid (HS.out.trans (hB.mono HS.out.size))
  have HLi : Hid (Lim w2 A2a m2a c2a s2a) := hl2a
  have HHi : Hid (Lim w2 A2b m2b c2b s2b) := hl2b
  have HBi : Hid (Bare s2a ∧ Bare s2b) := ⟨hb2a, hb2b⟩
  obtain ⟨rfl, L1, U1, hV1, hU1, hW1⟩ := logp_yes hq rfl (logd_one 1 (by decide) (by decide)) (by decide) (by decide)
  have HQ1 : Hid (LogV ⟨false, 1, 1⟩ 64 L1 U1 ∧ Un 64 L1 ⟨g2a, val s2a, e2a⟩ ∧ Un 64 U1 ⟨g2b, val s2b, e2b⟩) := ⟨hV1, hU1, hW1⟩
  clear hV1 hU1 hW1
  clear hl2a hl2b hb2a hb2b hB hq H2
  have ba := below1 w2 (.cells #[.bool g2a, .slice A2a m2a c2a, .int .i64 e2a, .bool g2b, .slice A2b m2b c2b, .int .i64 e2b] 32)
  replace HT : Hid (Tab (w2.alloc (.cells #[.bool g2a, .slice A2a m2a c2a, .int .i64 e2a, .bool g2b, .slice A2b m2b c2b, .int .i64 e2b] 32))) := HT.out.below ba
  replace HD : Hid (Lim (w2.alloc (.cells #[.bool g2a, .slice A2a m2a c2a, .int .i64 e2a, .bool g2b, .slice A2b m2b c2b, .int .i64 e2b] 32)) A1 m1 c1 d1) := HD.out.below ba
  replace HLi : Hid (Lim (w2.alloc (.cells #[.bool g2a, .slice A2a m2a c2a, .int .i64 e2a, .bool g2b, .slice A2b m2b c2b, .int .i64 e2b] 32)) A2a m2a c2a s2a) := HLi.out.below ba
  replace HHi : Hid (Lim (w2.alloc (.cells #[.bool g2a, .slice A2a m2a c2a, .int .i64 e2a, .bool g2b, .slice A2b m2b c2b, .int .i64 e2b] 32)) A2b m2b c2b s2b) := HHi.out.below ba
  replace HS := Lib.hid (HS.out.trans (ba.mono HS.out.size))
  clear ba
  have HIi : Hid (Ib (w2.alloc (.cells #[.bool g2a, .slice A2a m2a c2a, .int .i64 e2a, .bool g2b, .slice A2b m2b c2b, .int .i64 e2b] 32)) w2.heap.size g2a A2a m2a c2a e2a g2b A2b m2b c2b e2b) := Ib.new w2 g2a A2a m2a c2a e2a g2b A2b m2b c2b e2b
  clear HD
  clear HDv
  have H3 := Lib.hid (ln2_told 64 (w2.alloc (.cells #[.bool g2a, .slice A2a m2a c2a, .int .i64 e2a, .bool g2b, .slice A2b m2b c2b, .int .i64 e2b] 32)) HT.out (by decide) (by decide))
  go_wp2_with fail
  refine H3.out.mono ?_
  rintro e w3 ⟨Al, ml, cl, ls, Ah, mh, ch, hs, r, rfl, hml, hmh, hll, hlh, hB, rfl, v1, v2⟩
  replace HT : Hid (Tab w3) := HT.out.below hB
  replace HLi : Hid (Lim w3 A2a m2a c2a s2a) := HLi.out.below hB
  replace HHi : Hid (Lim w3 A2b m2b c2b s2b) := HHi.out.below hB
  replace HIi : Hid (Ib w3 w2.heap.size g2a A2a m2a c2a e2a g2b A2b m2b c2b e2b) := HIi.out.below hB
  replace HS := Lib.hid (HS.out.trans (hB.mono HS.out.size))
  have HLn : Hid (Lim w3 Al ml cl ls) := hll
  have HHn : Hid (Lim w3 Ah mh ch hs) := hlh
  have HV : Hid (AtV false 1 3 (64 + 1) (val ls) ∧ AtV true 1 3 (64 + 1) (val hs)) := ⟨v1, v2⟩
  clear hll hlh hB v1 v2 H3
  have H4 := Lib.hid (within_meets Al ml cl ls Ah mh ch hs 64 false w3 HLn.out HHn.out hml hmh HT.out (by decide) (by decide) (ln2_both HV.out.1 HV.out.2).2.1)
  go_wp2_with fail
  refine H4.out.mono ?_
  rintro e w4 ⟨gp, Ap, mp, cp, sp, ep, gq, Aq, mq, cq, sq, eq, rfl, hmp, hmq, hlp, hlq, hbp, hbq, hB, hd1, hd2⟩
  replace HT : Hid (Tab w4) := HT.out.below hB
  replace HLi : Hid (Lim w4 A2a m2a c2a s2a) := HLi.out.below hB
  replace HHi : Hid (Lim w4 A2b m2b c2b s2b) := HHi.out.below hB
  replace HIi : Hid (Ib w4 w2.heap.size g2a A2a m2a c2a e2a g2b A2b m2b c2b e2b) := HIi.out.below hB
  replace HLn : Hid (Lim w4 Al ml cl ls) := HLn.out.below hB
  replace HHn : Hid (Lim w4 Ah mh ch hs) := HHn.out.below hB
  replace HS := Lib.hid (HS.out.trans (hB.mono HS.out.size))
  have HLp : Hid (Lim w4 Ap mp cp sp) := hlp
  have HLq : Hid (Lim w4 Aq mq cq sq) := hlq
  have HQ2 : Hid (Un 64 ((val ls : Nat) : Int) ⟨gp, val sp, ep⟩ ∧ Un 64 ((val hs : Nat) : Int) ⟨gq, val sq, eq⟩) := ⟨un_mk (g := false) hd1 (by decide), un_mk (g := false) hd2 (by decide)⟩
  clear hlp hlq hbp hbq hB hd1 hd2 H4
  have ba := below1 w4 (.cells #[.bool gp, .slice Ap mp cp, .int .i64 ep, .bool gq, .slice Aq mq cq, .int .i64 eq] 32)
  replace HT : Hid (Tab (w4.alloc (.cells #[.bool gp, .slice Ap mp cp, .int .i64 ep, .bool gq, .slice Aq mq cq, .int .i64 eq] 32))) := HT.out.below ba
  replace HLi : Hid (Lim (w4.alloc (.cells #[.bool gp, .slice Ap mp cp, .int .i64 ep, .bool gq, .slice Aq mq cq, .int .i64 eq] 32)) A2a m2a c2a s2a) := HLi.out.below ba
  replace HHi : Hid (Lim (w4.alloc (.cells #[.bool gp, .slice Ap mp cp, .int .i64 ep, .bool gq, .slice Aq mq cq, .int .i64 eq] 32)) A2b m2b c2b s2b) := HHi.out.below ba
  replace HIi : Hid (Ib (w4.alloc (.cells #[.bool gp, .slice Ap mp cp, .int .i64 ep, .bool gq, .slice Aq mq cq, .int .i64 eq] 32)) w2.heap.size g2a A2a m2a c2a e2a g2b A2b m2b c2b e2b) := HIi.out.below ba
  replace HLn : Hid (Lim (w4.alloc (.cells #[.bool gp, .slice Ap mp cp, .int .i64 ep, .bool gq, .slice Aq mq cq, .int .i64 eq] 32)) Al ml cl ls) := HLn.out.below ba
  replace HHn : Hid (Lim (w4.alloc (.cells #[.bool gp, .slice Ap mp cp, .int .i64 ep, .bool gq, .slice Aq mq cq, .int .i64 eq] 32)) Ah mh ch hs) := HHn.out.below ba
  replace HLp : Hid (Lim (w4.alloc (.cells #[.bool gp, .slice Ap mp cp, .int .i64 ep, .bool gq, .slice Aq mq cq, .int .i64 eq] 32)) Ap mp cp sp) := HLp.out.below ba
  replace HLq : Hid (Lim (w4.alloc (.cells #[.bool gp, .slice Ap mp cp, .int .i64 ep, .bool gq, .slice Aq mq cq, .int .i64 eq] 32)) Aq mq cq sq) := HLq.out.below ba
  replace HS := Lib.hid (HS.out.trans (ba.mono HS.out.size))
  clear ba
  have HIw : Hid (Ib (w4.alloc (.cells #[.bool gp, .slice Ap mp cp, .int .i64 ep, .bool gq, .slice Aq mq cq, .int .i64 eq] 32)) w4.heap.size gp Ap mp cp ep gq Aq mq cq eq) := Ib.new w4 gp Ap mp cp ep gq Aq mq cq eq
  clear HLn HHn
  have H5 := Lib.hid (dof_nat 0 (by decide) false 0 0 (w4.alloc (.cells #[.bool gp, .slice Ap mp cp, .int .i64 ep, .bool gq, .slice Aq mq cq, .int .i64 eq] 32)) HT.out rfl)
  go_wp2_with fail
  refine H5.out.mono ?_
  rintro e w5 ⟨A5, m5, c5, d5, rfl, hm5, hl5, hb5, hv5, hB⟩
  replace HT : Hid (Tab w5) := HT.out.below hB
  replace HLi : Hid (Lim w5 A2a m2a c2a s2a) := HLi.out.below hB
  replace HHi : Hid (Lim w5 A2b m2b c2b s2b) := HHi.out.below hB
  replace HIi : Hid (Ib w5 w2.heap.size g2a A2a m2a c2a e2a g2b A2b m2b c2b e2b) := HIi.out.below hB
  replace HLp : Hid (Lim w5 Ap mp cp sp) := HLp.out.below hB
  replace HLq : Hid (Lim w5 Aq mq cq sq) := HLq.out.below hB
  replace HIw : Hid (Ib w5 w4.heap.size gp Ap mp cp ep gq Aq mq cq eq) := HIw.out.below hB
  replace HS := Lib.hid (HS.out.trans (hB.mono HS.out.size))
  have HZ : Hid (Lim w5 A5 m5 c5 d5) := hl5
  have HZv : Hid (Bare d5 ∧ val d5 = 0) := ⟨hb5, hv5⟩
  clear hl5 hb5 hv5 hB H5
  have H6 := log_lg false A5 m5 c5 d5 0 64 w5 HZ.out (by omega) HT.out (by decide) (by decide)
  rw [HZv.out.2] at H6
  replace H6 := Lib.hid H6
  go_wp2_with fail
  refine H6.out.mono ?_
  rintro e w6 ⟨gz, Az, mz, cz, sz_, ez, gy, Ay, my, cy, sy, ey, rz, rfl, hmz, hmy, hlz, hly, hbz, hby, hB, hq⟩
  replace HT : Hid (Tab w6) := HT.out.below hB
  replace HLi : Hid (Lim w6 A2a m2a c2a s2a) := HLi.out.below hB
  replace HHi : Hid (Lim w6 A2b m2b c2b s2b) := HHi.out.below hB
  replace HIi : Hid (Ib w6 w2.heap.size g2a A2a m2a c2a e2a g2b A2b m2b c2b e2b) := HIi.out.below hB
  replace HLp : Hid (Lim w6 Ap mp cp sp) := HLp.out.below hB
  replace HLq : Hid (Lim w6 Aq mq cq sq) := HLq.out.below hB
  replace HIw : Hid (Ib w6 w4.heap.size gp Ap mp cp ep gq Aq mq cq eq) := HIw.out.below hB
  replace HZ : Hid (Lim w6 A5 m5 c5 d5) := HZ.out.below hB
  replace HS := Lib.hid (HS.out.trans (hB.mono HS.out.size))
  obtain ⟨rfl, rfl, rfl⟩ := logp_no hq (fun h => by
    obtain ⟨⟨d, h1, h2⟩, _⟩ := h
    have h3 : mk false 0 0 = some ⟨false, 0, 0⟩ := rfl
    rw [h3] at h1
    cases h1
    exact h2.2.2.1 rfl)
  clear hlz hly hbz hby hB hq H6 hmz hmy HZv
  clear HZ
  have ba := below1 w6 (.cells #[.bool gz, .slice Az 0 cz, .int .i64 ez, .bool gy, .slice Ay 0 cy, .int .i64 ey] 32)
  replace HT : Hid (Tab (w6.alloc (.cells #[.bool gz, .slice Az 0 cz, .int .i64 ez, .bool gy, .slice Ay 0 cy, .int .i64 ey] 32))) := HT.out.below ba
  replace HLi : Hid (Lim (w6.alloc (.cells #[.bool gz, .slice Az 0 cz, .int .i64 ez, .bool gy, .slice Ay 0 cy, .int .i64 ey] 32)) A2a m2a c2a s2a) := HLi.out.below ba
  replace HHi : Hid (Lim (w6.alloc (.cells #[.bool gz, .slice Az 0 cz, .int .i64 ez, .bool gy, .slice Ay 0 cy, .int .i64 ey] 32)) A2b m2b c2b s2b) := HHi.out.below ba
  replace HIi : Hid (Ib (w6.alloc (.cells #[.bool gz, .slice Az 0 cz, .int .i64 ez, .bool gy, .slice Ay 0 cy, .int .i64 ey] 32)) w2.heap.size g2a A2a m2a c2a e2a g2b A2b m2b c2b e2b) := HIi.out.below ba
  replace HLp : Hid (Lim (w6.alloc (.cells #[.bool gz, .slice Az 0 cz, .int .i64 ez, .bool gy, .slice Ay 0 cy, .int .i64 ey] 32)) Ap mp cp sp) := HLp.out.below ba
  replace HLq : Hid (Lim (w6.alloc (.cells #[.bool gz, .slice Az 0 cz, .int .i64 ez, .bool gy, .slice Ay 0 cy, .int .i64 ey] 32)) Aq mq cq sq) := HLq.out.below ba
  replace HIw : Hid (Ib (w6.alloc (.cells #[.bool gz, .slice Az 0 cz, .int .i64 ez, .bool gy, .slice Ay 0 cy, .int .i64 ey] 32)) w4.heap.size gp Ap mp cp ep gq Aq mq cq eq) := HIw.out.below ba
  replace HS := Lib.hid (HS.out.trans (ba.mono HS.out.size))
  clear ba
  have HIz : Hid (Ib (w6.alloc (.cells #[.bool gz, .slice Az 0 cz, .int .i64 ez, .bool gy, .slice Ay 0 cy, .int .i64 ey] 32)) w6.heap.size gz Az 0 cz ez gy Ay 0 cy ey) := Ib.new w6 gz Az 0 cz ez gy Ay 0 cy ey
  clear HIz
  obtain ⟨y1, y2, y3⟩ := logv_two HQ1.out.1 HV.out.1 HV.out.2
  have HY : Hid (L1 = (val ls : Int) ∧ U1 = (val hs : Int) ∧ 0 < L1) := ⟨y1, y2, y3⟩
  clear y1 y2 y3
  have HIi_0 := HIi.out.x0
  have HIi_1 := HIi.out.x1
  have HIi_2 := HIi.out.x2
  have HIi_3 := HIi.out.x3
  have HIi_4 := HIi.out.x4
  have HIi_5 := HIi.out.x5
  have HIw_0 := HIw.out.x0
  have HIw_1 := HIw.out.x1
  have HIw_2 := HIw.out.x2
  have HIw_3 := HIw.out.x3
  have HIw_4 := HIw.out.x4
  have HIw_5 := HIw.out.x5
  have H7 := Lib.hid (dcmp_l 0 g2a A2a m2a c2a s2a e2a gp Ap mp cp sp ep (w6.alloc (.cells #[.bool gz, .slice Az 0 cz, .int .i64 ez, .bool gy, .slice Ay 0 cy, .int .i64 ey] 32)) HLi.out HLp.out (by omega) (by omega) HT.out (by show _ = _; rw [un_cmp HQ1.out.2.1 HQ2.out.1, HY.out.1]; exact cmpI_eq rfl))
  go_wp2_with fail
  refine H7.out.mono ?_
  rintro e w7 ⟨rfl, hB⟩
  clear HIi_0 HIi_1 HIi_2 HIi_3 HIi_4 HIi_5 HIw_0 HIw_1 HIw_2 HIw_3 HIw_4 HIw_5
  replace HT : Hid (Tab w7) := HT.out.below hB
  replace HLi : Hid (Lim w7 A2a m2a c2a s2a) := HLi.out.below hB
  replace HHi : Hid (Lim w7 A2b m2b c2b s2b) := HHi.out.below hB
  replace HIi : Hid (Ib w7 w2.heap.size g2a A2a m2a c2a e2a g2b A2b m2b c2b e2b) := HIi.out.below hB
  replace HLp : Hid (Lim w7 Ap mp cp sp) := HLp.out.below hB
  replace HLq : Hid (Lim w7 Aq mq cq sq) := HLq.out.below hB
  replace HIw : Hid (Ib w7 w4.heap.size gp Ap mp cp ep gq Aq mq cq eq) := HIw.out.below hB
  replace HS := Lib.hid (HS.out.trans (hB.mono HS.out.size))
  clear hB H7
  have HIi_0 := HIi.out.x0
  have HIi_1 := HIi.out.x1
  have HIi_2 := HIi.out.x2
  have HIi_3 := HIi.out.x3
  have HIi_4 := HIi.out.x4
  have HIi_5 := HIi.out.x5
  have HIw_0 := HIw.out.x0
  have HIw_1 := HIw.out.x1
  have HIw_2 := HIw.out.x2
  have HIw_3 := HIw.out.x3
  have HIw_4 := HIw.out.x4
  have HIw_5 := HIw.out.x5
  have H7 := Lib.hid (dcmp_l 0 g2b A2b m2b c2b s2b e2b gq Aq mq cq sq eq w7 HHi.out HLq.out (by omega) (by omega) HT.out (by show _ = _; rw [un_cmp HQ1.out.2.2 HQ2.out.2, HY.out.2.1]; exact cmpI_eq rfl))
  go_wp2_with fail
  refine H7.out.mono ?_
  rintro e w8 ⟨rfl, hB⟩
  clear HIi_0 HIi_1 HIi_2 HIi_3 HIi_4 HIi_5 HIw_0 HIw_1 HIw_2 HIw_3 HIw_4 HIw_5
  replace HT : Hid (Tab w8) := HT.out.below hB
  replace HLi : Hid (Lim w8 A2a m2a c2a s2a) := HLi.out.below hB
  replace HHi : Hid (Lim w8 A2b m2b c2b s2b) := HHi.out.below hB
  replace HIi : Hid (Ib w8 w2.heap.size g2a A2a m2a c2a e2a g2b A2b m2b c2b e2b) := HIi.out.below hB
  replace HLp : Hid (Lim w8 Ap mp cp sp) := HLp.out.below hB
  replace HLq : Hid (Lim w8 Aq mq cq sq) := HLq.out.below hB
  replace HIw : Hid (Ib w8 w4.heap.size gp Ap mp cp ep gq Aq mq cq eq) := HIw.out.below hB
  replace HS := Lib.hid (HS.out.trans (hB.mono HS.out.size))
  clear hB H7
  have HIi_0 := HIi.out.x0
  have HIi_1 := HIi.out.x1
  have HIi_2 := HIi.out.x2
  have HIi_3 := HIi.out.x3
  have HIi_4 := HIi.out.x4
  have HIi_5 := HIi.out.x5
  have H8 := Lib.hid (sign_l 1 g2a A2a m2a c2a s2a e2a w8 HLi.out (by omega) (by show _ = _; have := un_sg HQ1.out.2.1; rw [cmpI_gt HY.out.2.2] at this; exact this))
  go_wp2_with fail
  refine H8.out.mono ?_
  rintro e w9 ⟨rfl, hB⟩
  clear HIi_0 HIi_1 HIi_2 HIi_3 HIi_4 HIi_5
  replace HT : Hid (Tab w9) := HT.out.below hB
  replace HLi : Hid (Lim w9 A2a m2a c2a s2a) := HLi.out.below hB
  replace HHi : Hid (Lim w9 A2b m2b c2b s2b) := HHi.out.below hB
  replace HIi : Hid (Ib w9 w2.heap.size g2a A2a m2a c2a e2a g2b A2b m2b c2b e2b) := HIi.out.below hB
  replace HLp : Hid (Lim w9 Ap mp cp sp) := HLp.out.below hB
  replace HLq : Hid (Lim w9 Aq mq cq sq) := HLq.out.below hB
  replace HIw : Hid (Ib w9 w4.heap.size gp Ap mp cp ep gq Aq mq cq eq) := HIw.out.below hB
  replace HS := Lib.hid (HS.out.trans (hB.mono HS.out.size))
  clear hB H8
  have Hfin := Lib.hid HS.out
  clear HS HT HLi HHi HIi HLp HLq HIw HQ1 HQ2 HV HY HBi
  go_wp2
  go_ret
  exact ⟨rfl, Hfin.out⟩
end Go.Proofs.YtpbggonfdaealaaGreatDoor
