/- The walk of the law LogsPowers (written by law_lpowers.py). -/
import Derived.Test.YtpbggonfdaealaaDoorLgTwo
import Derived.Test.YtpbggonfdaealaaDoorLgRules
namespace Go.Proofs.YtpbggonfdaealaaDoor
open Go.RowKit

set_option maxHeartbeats 8000000 in
set_option maxRecDepth 20000 in
theorem lpows_neg (kk : Int) (s : Nat) (n : Int) (w : World) (hT : Tab w) (hn : kk.tmod 2000 = n) (hk1 : -32768 ≤ kk) (hk2 : kk ≤ 32767) (hn1 : -2000 ≤ n) (hn2 : n ≤ 2000) (hs : s ≤ 255) (h0 : n < 0) :
    Calls Tryd.prog 5 #[.int .i16 kk, .int .u8 (s : Int)] w fun e w' => e = .returned (.bool true) ∧ Below w.heap.size w w' := by
  obtain ⟨bn, hof, hmul⟩ := of_int n (by omega) (by omega)
  have H1 := Lib.hid (lalive_any w hT)
  have HT := Lib.hid hT
  have HS := Lib.hid (Below.refl w.heap.size w)
  obtain ⟨z, hz⟩ : ∃ z, 16 + s = z := ⟨_, rfl⟩
  have ez : (16 : Int) + (s : Int) = (z : Int) := by omega
  have hz9 : z ≤ 271 := by omega
  have hz8 : 16 ≤ z := by omega
  obtain ⟨nn, hnn⟩ : ∃ nn, -n = nn := ⟨_, rfl⟩
  have hnn1 : -2000 ≤ nn := by omega
  have hnn2 : nn ≤ 2000 := by omega
  have HNN : Hid (-n = nn ∧ n < 0) := ⟨hnn, h0⟩
  have d0 : decide (n < (0 : Int)) = true := decide_eq_true (by omega)
  obtain ⟨gn, Vn, En⟩ := bn
  have HOf := Lib.hid hof
  have HMu := Lib.hid hmul
  clear hT hz h0 hof hmul
  go_enter Tryd.func5, Tryd.ntmps5
  go_wp2_with fail
  refine H1.out.mono ?_
  rintro e w1 ⟨rfl, hB⟩
  replace HT : Hid (Tab w1) := HT.out.below hB
  replace HS := Lib.hid (HS.out.trans (hB.mono HS.out.size))
  clear hB H1
  have ln1a := lim_new1 w1 40 1 1 rfl (by decide)
  have ba1a := below1 w1 (.cells #[.int .u64 1] 40)
  replace HT : Hid (Tab (w1.alloc (.cells #[.int .u64 1] 40))) := HT.out.below ba1a
  replace HS := Lib.hid (HS.out.trans (ba1a.mono HS.out.size))
  clear ba1a
  have H2 := log_lg false (some ⟨w1.heap.size, 0, none⟩) 1 1 [1] n (z : Int) (w1.alloc (.cells #[.int .u64 1] 40)) ln1a (by decide) HT.out (by omega) (by omega)
  rw [lval_one] at H2
  replace H2 := Lib.hid H2
  clear ln1a
  go_wp2_with fail
  refine H2.out.mono ?_
  rintro e w2 ⟨g2a, A2a, m2a, c2a, s2a, e2a, g2b, A2b, m2b, c2b, s2b, e2b, r2, rfl, hm2a, hm2b, hl2a, hl2b, hb2a, hb2b, hB, hq⟩
  replace HT : Hid (Tab w2) := HT.out.below hB
  replace HS := Lib.hid (HS.out.trans (hB.mono HS.out.size))
  have HLp : Hid (Lim w2 A2a m2a c2a s2a) := hl2a
  have HHp : Hid (Lim w2 A2b m2b c2b s2b) := hl2b
  have HBp : Hid (Bare s2a ∧ Bare s2b) := ⟨hb2a, hb2b⟩
  obtain ⟨rfl, Lp, Up, hVp, hLp, hUp⟩ := logp_yes hq (mk_one_at (by omega) (by omega)) (logd_one n (by omega) (by omega)) (by omega) (by omega)
  rw [Int.toNat_natCast] at hVp hLp hUp
  have HQp : Hid (LogV ⟨false, 1, n⟩ z Lp Up ∧ Un z Lp ⟨g2a, val s2a, e2a⟩ ∧ Un z Up ⟨g2b, val s2b, e2b⟩) := ⟨hVp, hLp, hUp⟩
  clear hVp hLp hUp
  clear hl2a hl2b hb2a hb2b hB hq H2
  have ba := below1 w2 (.cells #[.bool g2a, .slice A2a m2a c2a, .int .i64 e2a, .bool g2b, .slice A2b m2b c2b, .int .i64 e2b] 47)
  replace HT : Hid (Tab (w2.alloc (.cells #[.bool g2a, .slice A2a m2a c2a, .int .i64 e2a, .bool g2b, .slice A2b m2b c2b, .int .i64 e2b] 47))) := HT.out.below ba
  replace HLp : Hid (Lim (w2.alloc (.cells #[.bool g2a, .slice A2a m2a c2a, .int .i64 e2a, .bool g2b, .slice A2b m2b c2b, .int .i64 e2b] 47)) A2a m2a c2a s2a) := HLp.out.below ba
  replace HHp : Hid (Lim (w2.alloc (.cells #[.bool g2a, .slice A2a m2a c2a, .int .i64 e2a, .bool g2b, .slice A2b m2b c2b, .int .i64 e2b] 47)) A2b m2b c2b s2b) := HHp.out.below ba
  replace HS := Lib.hid (HS.out.trans (ba.mono HS.out.size))
  clear ba
  have HIp : Hid (Ib (w2.alloc (.cells #[.bool g2a, .slice A2a m2a c2a, .int .i64 e2a, .bool g2b, .slice A2b m2b c2b, .int .i64 e2b] 47)) w2.heap.size g2a A2a m2a c2a e2a g2b A2b m2b c2b e2b) := Ib.new w2 g2a A2a m2a c2a e2a g2b A2b m2b c2b e2b
  have ln2b := lim_new1 (w2.alloc (.cells #[.bool g2a, .slice A2a m2a c2a, .int .i64 e2a, .bool g2b, .slice A2b m2b c2b, .int .i64 e2b] 47)) 40 1 1 rfl (by decide)
  rw [World.size_alloc] at ln2b
  have ba2b := below1 (w2.alloc (.cells #[.bool g2a, .slice A2a m2a c2a, .int .i64 e2a, .bool g2b, .slice A2b m2b c2b, .int .i64 e2b] 47)) (.cells #[.int .u64 1] 40)
  replace HT : Hid (Tab ((w2.alloc (.cells #[.bool g2a, .slice A2a m2a c2a, .int .i64 e2a, .bool g2b, .slice A2b m2b c2b, .int .i64 e2b] 47)).alloc (.cells #[.int .u64 1] 40))) := HT.out.below ba2b
  replace HLp : Hid (Lim ((w2.alloc (.cells #[.bool g2a, .slice A2a m2a c2a, .int .i64 e2a, .bool g2b, .slice A2b m2b c2b, .int .i64 e2b] 47)).alloc (.cells #[.int .u64 1] 40)) A2a m2a c2a s2a) := HLp.out.below ba2b
  replace HHp : Hid (Lim ((w2.alloc (.cells #[.bool g2a, .slice A2a m2a c2a, .int .i64 e2a, .bool g2b, .slice A2b m2b c2b, .int .i64 e2b] 47)).alloc (.cells #[.int .u64 1] 40)) A2b m2b c2b s2b) := HHp.out.below ba2b
  replace HIp : Hid (Ib ((w2.alloc (.cells #[.bool g2a, .slice A2a m2a c2a, .int .i64 e2a, .bool g2b, .slice A2b m2b c2b, .int .i64 e2b] 47)).alloc (.cells #[.int .u64 1] 40)) w2.heap.size g2a A2a m2a c2a e2a g2b A2b m2b c2b e2b) := HIp.out.below ba2b
  replace HS := Lib.hid (HS.out.trans (ba2b.mono HS.out.size))
  clear ba2b
  have H2 := log_lg false (some ⟨w2.heap.size + 1, 0, none⟩) 1 1 [1] nn (z : Int) ((w2.alloc (.cells #[.bool g2a, .slice A2a m2a c2a, .int .i64 e2a, .bool g2b, .slice A2b m2b c2b, .int .i64 e2b] 47)).alloc (.cells #[.int .u64 1] 40)) ln2b (by decide) HT.out (by omega) (by omega)
  rw [lval_one] at H2
  replace H2 := Lib.hid H2
  clear ln2b
  go_wp2_with fail
  refine H2.out.mono ?_
  rintro e w3 ⟨g3a, A3a, m3a, c3a, s3a, e3a, g3b, A3b, m3b, c3b, s3b, e3b, r3, rfl, hm3a, hm3b, hl3a, hl3b, hb3a, hb3b, hB, hq⟩
  replace HT : Hid (Tab w3) := HT.out.below hB
  replace HLp : Hid (Lim w3 A2a m2a c2a s2a) := HLp.out.below hB
  replace HHp : Hid (Lim w3 A2b m2b c2b s2b) := HHp.out.below hB
  replace HIp : Hid (Ib w3 w2.heap.size g2a A2a m2a c2a e2a g2b A2b m2b c2b e2b) := HIp.out.below hB
  replace HS := Lib.hid (HS.out.trans (hB.mono HS.out.size))
  have HLq : Hid (Lim w3 A3a m3a c3a s3a) := hl3a
  have HHq : Hid (Lim w3 A3b m3b c3b s3b) := hl3b
  have HBq : Hid (Bare s3a ∧ Bare s3b) := ⟨hb3a, hb3b⟩
  obtain ⟨rfl, Lq, Uq, hVq, hLq, hUq⟩ := logp_yes hq (mk_one_at (by omega) (by omega)) (logd_one nn (by omega) (by omega)) (by omega) (by omega)
  rw [Int.toNat_natCast] at hVq hLq hUq
  have HQq : Hid (LogV ⟨false, 1, nn⟩ z Lq Uq ∧ Un z Lq ⟨g3a, val s3a, e3a⟩ ∧ Un z Uq ⟨g3b, val s3b, e3b⟩) := ⟨hVq, hLq, hUq⟩
  clear hVq hLq hUq
  clear hl3a hl3b hb3a hb3b hB hq H2
  have ba := below1 w3 (.cells #[.bool g3a, .slice A3a m3a c3a, .int .i64 e3a, .bool g3b, .slice A3b m3b c3b, .int .i64 e3b] 47)
  replace HT : Hid (Tab (w3.alloc (.cells #[.bool g3a, .slice A3a m3a c3a, .int .i64 e3a, .bool g3b, .slice A3b m3b c3b, .int .i64 e3b] 47))) := HT.out.below ba
  replace HLp : Hid (Lim (w3.alloc (.cells #[.bool g3a, .slice A3a m3a c3a, .int .i64 e3a, .bool g3b, .slice A3b m3b c3b, .int .i64 e3b] 47)) A2a m2a c2a s2a) := HLp.out.below ba
  replace HHp : Hid (Lim (w3.alloc (.cells #[.bool g3a, .slice A3a m3a c3a, .int .i64 e3a, .bool g3b, .slice A3b m3b c3b, .int .i64 e3b] 47)) A2b m2b c2b s2b) := HHp.out.below ba
  replace HIp : Hid (Ib (w3.alloc (.cells #[.bool g3a, .slice A3a m3a c3a, .int .i64 e3a, .bool g3b, .slice A3b m3b c3b, .int .i64 e3b] 47)) w2.heap.size g2a A2a m2a c2a e2a g2b A2b m2b c2b e2b) := HIp.out.below ba
  replace HLq : Hid (Lim (w3.alloc (.cells #[.bool g3a, .slice A3a m3a c3a, .int .i64 e3a, .bool g3b, .slice A3b m3b c3b, .int .i64 e3b] 47)) A3a m3a c3a s3a) := HLq.out.below ba
  replace HHq : Hid (Lim (w3.alloc (.cells #[.bool g3a, .slice A3a m3a c3a, .int .i64 e3a, .bool g3b, .slice A3b m3b c3b, .int .i64 e3b] 47)) A3b m3b c3b s3b) := HHq.out.below ba
  replace HS := Lib.hid (HS.out.trans (ba.mono HS.out.size))
  clear ba
  have HIq : Hid (Ib (w3.alloc (.cells #[.bool g3a, .slice A3a m3a c3a, .int .i64 e3a, .bool g3b, .slice A3b m3b c3b, .int .i64 e3b] 47)) w3.heap.size g3a A3a m3a c3a e3a g3b A3b m3b c3b e3b) := Ib.new w3 g3a A3a m3a c3a e3a g3b A3b m3b c3b e3b
  have H1 := Lib.hid (dof_nat 2 (by decide) false 1 1 (w3.alloc (.cells #[.bool g3a, .slice A3a m3a c3a, .int .i64 e3a, .bool g3b, .slice A3b m3b c3b, .int .i64 e3b] 47)) HT.out rfl)
  go_wp2_with fail
  refine H1.out.mono ?_
  rintro e w4 ⟨A4, m4, c4, d4, rfl, hm4, hl4, hb4, hv4, hB⟩
  replace HT : Hid (Tab w4) := HT.out.below hB
  replace HLp : Hid (Lim w4 A2a m2a c2a s2a) := HLp.out.below hB
  replace HHp : Hid (Lim w4 A2b m2b c2b s2b) := HHp.out.below hB
  replace HIp : Hid (Ib w4 w2.heap.size g2a A2a m2a c2a e2a g2b A2b m2b c2b e2b) := HIp.out.below hB
  replace HLq : Hid (Lim w4 A3a m3a c3a s3a) := HLq.out.below hB
  replace HHq : Hid (Lim w4 A3b m3b c3b s3b) := HHq.out.below hB
  replace HIq : Hid (Ib w4 w3.heap.size g3a A3a m3a c3a e3a g3b A3b m3b c3b e3b) := HIq.out.below hB
  replace HS := Lib.hid (HS.out.trans (hB.mono HS.out.size))
  have HD : Hid (Lim w4 A4 m4 c4 d4) := hl4
  have HDv : Hid (Bare d4 ∧ val d4 = 1) := ⟨hb4, hv4⟩
  clear hl4 hb4 hv4 hB H1
  have H2 := log_lg false A4 m4 c4 d4 1 (z : Int) w4 HD.out (by omega) HT.out (by omega) (by omega)
  rw [HDv.out.2] at H2
  replace H2 := Lib.hid H2
  go_wp2_with fail
  refine H2.out.mono ?_
  rintro e w5 ⟨g5a, A5a, m5a, c5a, s5a, e5a, g5b, A5b, m5b, c5b, s5b, e5b, r5, rfl, hm5a, hm5b, hl5a, hl5b, hb5a, hb5b, hB, hq⟩
  replace HT : Hid (Tab w5) := HT.out.below hB
  replace HLp : Hid (Lim w5 A2a m2a c2a s2a) := HLp.out.below hB
  replace HHp : Hid (Lim w5 A2b m2b c2b s2b) := HHp.out.below hB
  replace HIp : Hid (Ib w5 w2.heap.size g2a A2a m2a c2a e2a g2b A2b m2b c2b e2b) := HIp.out.below hB
  replace HLq : Hid (Lim w5 A3a m3a c3a s3a) := HLq.out.below hB
  replace HHq : Hid (Lim w5 A3b m3b c3b s3b) := HHq.out.below hB
  replace HIq : Hid (Ib w5 w3.heap.size g3a A3a m3a c3a e3a g3b A3b m3b c3b e3b) := HIq.out.below hB
  replace HD : Hid (Lim w5 A4 m4 c4 d4) := HD.out.below hB
  replace HS := Lib.hid (HS.out.trans (hB.mono HS.out.size))
  have HLt : Hid (Lim w5 A5a m5a c5a s5a) := hl5a
  have HHt : Hid (Lim w5 A5b m5b c5b s5b) := hl5b
  have HBt : Hid (Bare s5a ∧ Bare s5b) := ⟨hb5a, hb5b⟩
  obtain ⟨rfl, Lt, Ut, hVt, hLt, hUt⟩ := logp_yes hq rfl (logd_one 1 (by decide) (by decide)) (by omega) (by omega)
  rw [Int.toNat_natCast] at hVt hLt hUt
  have HQt : Hid (LogV ⟨false, 1, 1⟩ z Lt Ut ∧ Un z Lt ⟨g5a, val s5a, e5a⟩ ∧ Un z Ut ⟨g5b, val s5b, e5b⟩) := ⟨hVt, hLt, hUt⟩
  clear hVt hLt hUt
  clear hl5a hl5b hb5a hb5b hB hq H2
  have ba := below1 w5 (.cells #[.bool g5a, .slice A5a m5a c5a, .int .i64 e5a, .bool g5b, .slice A5b m5b c5b, .int .i64 e5b] 47)
  replace HT : Hid (Tab (w5.alloc (.cells #[.bool g5a, .slice A5a m5a c5a, .int .i64 e5a, .bool g5b, .slice A5b m5b c5b, .int .i64 e5b] 47))) := HT.out.below ba
  replace HLp : Hid (Lim (w5.alloc (.cells #[.bool g5a, .slice A5a m5a c5a, .int .i64 e5a, .bool g5b, .slice A5b m5b c5b, .int .i64 e5b] 47)) A2a m2a c2a s2a) := HLp.out.below ba
  replace HHp : Hid (Lim (w5.alloc (.cells #[.bool g5a, .slice A5a m5a c5a, .int .i64 e5a, .bool g5b, .slice A5b m5b c5b, .int .i64 e5b] 47)) A2b m2b c2b s2b) := HHp.out.below ba
  replace HIp : Hid (Ib (w5.alloc (.cells #[.bool g5a, .slice A5a m5a c5a, .int .i64 e5a, .bool g5b, .slice A5b m5b c5b, .int .i64 e5b] 47)) w2.heap.size g2a A2a m2a c2a e2a g2b A2b m2b c2b e2b) := HIp.out.below ba
  replace HLq : Hid (Lim (w5.alloc (.cells #[.bool g5a, .slice A5a m5a c5a, .int .i64 e5a, .bool g5b, .slice A5b m5b c5b, .int .i64 e5b] 47)) A3a m3a c3a s3a) := HLq.out.below ba
  replace HHq : Hid (Lim (w5.alloc (.cells #[.bool g5a, .slice A5a m5a c5a, .int .i64 e5a, .bool g5b, .slice A5b m5b c5b, .int .i64 e5b] 47)) A3b m3b c3b s3b) := HHq.out.below ba
  replace HIq : Hid (Ib (w5.alloc (.cells #[.bool g5a, .slice A5a m5a c5a, .int .i64 e5a, .bool g5b, .slice A5b m5b c5b, .int .i64 e5b] 47)) w3.heap.size g3a A3a m3a c3a e3a g3b A3b m3b c3b e3b) := HIq.out.below ba
  replace HD : Hid (Lim (w5.alloc (.cells #[.bool g5a, .slice A5a m5a c5a, .int .i64 e5a, .bool g5b, .slice A5b m5b c5b, .int .i64 e5b] 47)) A4 m4 c4 d4) := HD.out.below ba
  replace HLt : Hid (Lim (w5.alloc (.cells #[.bool g5a, .slice A5a m5a c5a, .int .i64 e5a, .bool g5b, .slice A5b m5b c5b, .int .i64 e5b] 47)) A5a m5a c5a s5a) := HLt.out.below ba
  replace HHt : Hid (Lim (w5.alloc (.cells #[.bool g5a, .slice A5a m5a c5a, .int .i64 e5a, .bool g5b, .slice A5b m5b c5b, .int .i64 e5b] 47)) A5b m5b c5b s5b) := HHt.out.below ba
  replace HS := Lib.hid (HS.out.trans (ba.mono HS.out.size))
  clear ba
  have HIt : Hid (Ib (w5.alloc (.cells #[.bool g5a, .slice A5a m5a c5a, .int .i64 e5a, .bool g5b, .slice A5b m5b c5b, .int .i64 e5b] 47)) w5.heap.size g5a A5a m5a c5a e5a g5b A5b m5b c5b e5b) := Ib.new w5 g5a A5a m5a c5a e5a g5b A5b m5b c5b e5b
  clear HD
  clear HDv
  have hp := pows_all hn1 hn2 HQp.out.1 (by rw [HNN.out.1]; exact HQq.out.1) HQt.out.1
  have HPW : Hid (Lp ≤ n * Lt ∧ n * Ut ≤ Up ∧ -Uq ≤ Up ∧ Lp ≤ -Lq) := by
    have hc := HNN.out.2
    rw [if_neg (by omega), if_neg (by omega)] at hp
    exact hp
  clear hp
  have hft := log_far (logd_one 1 (by decide) (by decide)) (by omega) (by omega) HQt.out.1
  have hfq := log_far (logd_one nn (by omega) (by omega)) (by omega) (by omega) HQq.out.1
  have p64 : 2 ^ (z + 30) ≤ 2 ^ (z + 64) := Nat.pow_le_pow_right (by decide) (by omega)
  obtain ⟨dl, hl1, hl2⟩ := HMu.out _ _ _ HQt.out.2.1 (by omega) (Nat.lt_of_lt_of_le hft.1 p64)
  obtain ⟨dh, hh1, hh2⟩ := HMu.out _ _ _ HQt.out.2.2 (by omega) (Nat.lt_of_lt_of_le hft.2 p64)
  dsimp only at hl1 hh1
  obtain ⟨⟨gv, Vv, Ev⟩, hv1⟩ := un_mkd HQq.out.2.2 (by omega) (Nat.lt_of_lt_of_le hfq.2 p64) (!g3b)
  obtain ⟨⟨gu, Vu, Eu⟩, hu1⟩ := un_mkd HQq.out.2.1 (by omega) (Nat.lt_of_lt_of_le hfq.1 p64) (!g3a)
  have Hv := Lib.hid hv1
  have Hu := Lib.hid hu1
  have Hvu : Hid (Un z (-Uq) ⟨gv, Vv, Ev⟩ ∧ Un z (-Lq) ⟨gu, Vu, Eu⟩) := ⟨un_neg HQq.out.2.2 hv1, un_neg HQq.out.2.1 hu1⟩
  have Hml : Hid (_ ∧ Un z (n * Lt) dl) := ⟨hl1, hl2⟩
  have Hmh : Hid (_ ∧ Un z (n * Ut) dh) := ⟨hh1, hh2⟩
  clear hft hfq p64 hl1 hl2 hh1 hh2 hv1 hu1 HMu
  have HB := Lib.hid (Below.refl (w5.alloc (.cells #[.bool g5a, .slice A5a m5a c5a, .int .i64 e5a, .bool g5b, .slice A5b m5b c5b, .int .i64 e5b] 47)).heap.size (w5.alloc (.cells #[.bool g5a, .slice A5a m5a c5a, .int .i64 e5a, .bool g5b, .slice A5b m5b c5b, .int .i64 e5b] 47)))
  have HO2 : Hid (∀ u, Below (w5.alloc (.cells #[.bool g5a, .slice A5a m5a c5a, .int .i64 e5a, .bool g5b, .slice A5b m5b c5b, .int .i64 e5b] 47)).heap.size (w5.alloc (.cells #[.bool g5a, .slice A5a m5a c5a, .int .i64 e5a, .bool g5b, .slice A5b m5b c5b, .int .i64 e5b] 47)) u → Calls Tryd.prog 21 #[.int .i64 n] u (Tells1 u gn Vn 1 En)) := fun u hu => HOf.out u ((HT.out.below HB.out).below hu)
  have HM2 : Hid (∀ u A m c es, Below (w5.alloc (.cells #[.bool g5a, .slice A5a m5a c5a, .int .i64 e5a, .bool g5b, .slice A5b m5b c5b, .int .i64 e5b] 47)).heap.size (w5.alloc (.cells #[.bool g5a, .slice A5a m5a c5a, .int .i64 e5a, .bool g5b, .slice A5b m5b c5b, .int .i64 e5b] 47)) u → Mq u Vn A m c es → m ≤ 1 → Calls Tryd.prog 17 #[.agg #[.bool g5a, .slice A5a m5a c5a, .int .i64 e5a], .agg #[.bool gn, .slice A m c, .int .i64 En]] u (Told u (some dl) 400)) := fun u A m c es hu h1 h2 => by
    refine (dmul_any (some dl) g5a A5a m5a c5a s5a e5a gn A m c es En u ((HLt.out.below HB.out).below hu) h1.1 (by omega) (by omega) ((HT.out.below HB.out).below hu) (by show _ = _; rw [h1.2.2]; exact Hml.out.1)).mono ?_
    rintro e w' ⟨g9, A9, m9, c9, z9, E9, r9, k1, k2, k3⟩
    exact ⟨g9, A9, m9, c9, z9, E9, r9, k1, by omega, k3⟩
  have HI0 := Lib.hid (HIt.out.below HB.out)
  have cur := Lib.hid ((HoldU.start (w5.alloc (.cells #[.bool g5a, .slice A5a m5a c5a, .int .i64 e5a, .bool g5b, .slice A5b m5b c5b, .int .i64 e5b] 47))).below (below_drew _))
  have F1 := (HoldU.start (w5.alloc (.cells #[.bool g5a, .slice A5a m5a c5a, .int .i64 e5a, .bool g5b, .slice A5b m5b c5b, .int .i64 e5b] 47))).one.below (below_drew _)
  rw [World.size_alloc] at F1
  replace F1 := Lib.hid F1
  go_wp2_with fail
  go_cut [13, 14] from 19 (fun s13 s14 wx => ∃ (p m4 c4 : Nat) (A4 : Option Addr) (g4 : Bool) (E4 : Int) (es4 : List Nat), s13 = .pointer (some ⟨p, 0, none⟩) ∧ s14 = .int .i64 0 ∧ m4 ≤ 400 ∧ Hid (RelO (w5.alloc (.cells #[.bool g5a, .slice A5a m5a c5a, .int .i64 e5a, .bool g5b, .slice A5b m5b c5b, .int .i64 e5b] 47)) p g4 A4 m4 c4 E4 (val es4) es4 wx ∧ dl = ⟨g4, val es4, E4⟩))
  case first =>
    as_aux_lemma =>
    go_region_held3 (fun u => u.cell? ⟨w5.heap.size, 0, none⟩ = some (.bool g5a) ∧ u.cell? ⟨w5.heap.size, 1, none⟩ = some (.slice A5a m5a c5a) ∧ u.cell? ⟨w5.heap.size, 2, none⟩ = some (.int .i64 e5a)) (first | (with_reducible exact HI0.out.lo3 cur.out.old) | (with_reducible exact HI0.out.lo3 F1.out.old) | (with_reducible exact HI0.out.lo3 (cur.out.a1 _)) | (with_reducible exact HI0.out.lo3 (cur.out.at1 _ _ _ _ _)))
      (first
        | (go_at_call 21; (with_reducible refine (HO2.out _ (by first | (with_reducible exact cur.out.old) | (with_reducible exact F1.out.old) | (with_reducible exact cur.out.a1 _))).mono ?_); rintro e u1 ⟨A1, m1, c1, es1, rfl, hm1, hl1, hb1, hv1, hB1⟩; (first | (with_reducible (replace cur := Lib.hid (cur.out.below hB1))) | (with_reducible (replace cur := Lib.hid (cur.out.one.below hB1))) | (with_reducible (replace cur := Lib.hid (F1.out.below hB1)))); have L1 : Hid (Mq u1 Vn A1 m1 c1 es1) := ⟨hl1, hb1, hv1⟩; clear hl1 hb1 hv1 hB1; (first | (have kx := cur.out.first; have x0 := kx.c0; have x1 := kx.c1; have x2 := kx.c2; have xf := kx.fz; have xl := kx.lt; clear kx) | skip))
        | (go_at_call 17; (with_reducible refine (HM2.out _ A1 m1 c1 es1 (by first | (with_reducible exact cur.out.old) | (with_reducible exact F1.out.old) | (with_reducible exact cur.out.a1 _)) (by first | (with_reducible exact L1.out) | (with_reducible exact L1.out.below (below1 _ _))) hm1).mono ?_); rintro e u2 ⟨g2, A2, m2, c2, es2, E2, r2, rfl, hm2, hl2, hb2, ⟨rfl, hg2, hV2, hE2⟩, hB2⟩; (first | (with_reducible (replace cur := Lib.hid (cur.out.below hB2))) | (with_reducible (replace cur := Lib.hid (cur.out.one.below hB2))) | (with_reducible (replace cur := Lib.hid (F1.out.below hB2)))); have L2 : Hid (Mq u2 (val es2) A2 m2 c2 es2 ∧ dl = ⟨g2, val es2, E2⟩) := ⟨⟨hl2, hb2, rfl⟩, by rw [hg2, hV2, hE2]⟩; clear hl2 hb2 hg2 hV2 hE2 hB2; (first | (have kx := cur.out.first; have x0 := kx.c0; have x1 := kx.c1; have x2 := kx.c2; have xf := kx.fz; have xl := kx.lt; clear kx) | skip)))
    all_goals (go_wp2_with fail)
    all_goals go_meet
    all_goals (refine ⟨_, m2, c2, A2, g2, E2, es2, rfl, rfl, hm2, ?_⟩)
    all_goals (first
      | (have t := RelO.last (g := g2) (E := E2) cur.out L2.out.1; have t2 := And.intro t L2.out.2; (with_reducible exact Lib.hid t2))
      | (have t := RelO.ahead (g := g2) (E := E2) cur.out L2.out.1; have t2 := And.intro t L2.out.2; (with_reducible exact Lib.hid t2)))
  case rest =>
    clear cur F1 HO2 HM2 HI0
    obtain ⟨ux, rfl⟩ : ∃ ux, ux = wc := ⟨_, rfl⟩
    obtain ⟨px, mx, cx, Ax, gx, Ex, sx, rfl, rfl, hmx, HRx⟩ := hcut
    replace HB := Lib.hid (HB.out.trans (HRx.out.1.1.mono HB.out.size))
    have HX1 : Hid (Bd ux px 32 gx Ax mx cx Ex ∧ Lim ux Ax mx cx sx ∧ Un z (n * Lt) ⟨gx, val sx, Ex⟩ ∧ (w5.alloc (.cells #[.bool g5a, .slice A5a m5a c5a, .int .i64 e5a, .bool g5b, .slice A5b m5b c5b, .int .i64 e5b] 47)).heap.size ≤ px) := ⟨HRx.out.1.2.1, HRx.out.1.2.2.1.1, by rw [← HRx.out.2]; exact Hml.out.2, HRx.out.1.2.2.2⟩
    clear HRx Hml
    have HO2 : Hid (∀ u, Below ux.heap.size ux u → Calls Tryd.prog 21 #[.int .i64 n] u (Tells1 u gn Vn 1 En)) := fun u hu => HOf.out u ((HT.out.below HB.out).below hu)
    have HM2 : Hid (∀ u A m c es, Below ux.heap.size ux u → Mq u Vn A m c es → m ≤ 1 → Calls Tryd.prog 17 #[.agg #[.bool g5b, .slice A5b m5b c5b, .int .i64 e5b], .agg #[.bool gn, .slice A m c, .int .i64 En]] u (Told u (some dh) 400)) := fun u A m c es hu h1 h2 => by
      refine (dmul_any (some dh) g5b A5b m5b c5b s5b e5b gn A m c es En u ((HHt.out.below HB.out).below hu) h1.1 (by omega) (by omega) ((HT.out.below HB.out).below hu) (by show _ = _; rw [h1.2.2]; exact Hmh.out.1)).mono ?_
      rintro e w' ⟨g9, A9, m9, c9, z9, E9, r9, k1, k2, k3⟩
      exact ⟨g9, A9, m9, c9, z9, E9, r9, k1, by omega, k3⟩
    have HI0 := Lib.hid (HIt.out.below HB.out)
    have cur := Lib.hid ((HoldU.start ux).below (below_drew _))
    have F1 := Lib.hid ((HoldU.start ux).one.below (below_drew _))
    go_wp2_with fail
    go_cut [15, 16] from 19 (fun s13 s14 wx => ∃ (p m4 c4 : Nat) (A4 : Option Addr) (g4 : Bool) (E4 : Int) (es4 : List Nat), s13 = .pointer (some ⟨p, 0, none⟩) ∧ s14 = .int .i64 0 ∧ m4 ≤ 400 ∧ Hid (RelO ux p g4 A4 m4 c4 E4 (val es4) es4 wx ∧ dh = ⟨g4, val es4, E4⟩))
    case first =>
      as_aux_lemma =>
      go_region_held3 (fun u => u.cell? ⟨w5.heap.size, 3, none⟩ = some (.bool g5b) ∧ u.cell? ⟨w5.heap.size, 4, none⟩ = some (.slice A5b m5b c5b) ∧ u.cell? ⟨w5.heap.size, 5, none⟩ = some (.int .i64 e5b)) (first | (with_reducible exact HI0.out.hi3 cur.out.old) | (with_reducible exact HI0.out.hi3 F1.out.old) | (with_reducible exact HI0.out.hi3 (cur.out.a1 _)) | (with_reducible exact HI0.out.hi3 (cur.out.at1 _ _ _ _ _)))
        (first
          | (go_at_call 21; (with_reducible refine (HO2.out _ (by first | (with_reducible exact cur.out.old) | (with_reducible exact F1.out.old) | (with_reducible exact cur.out.a1 _))).mono ?_); rintro e u1 ⟨A1, m1, c1, es1, rfl, hm1, hl1, hb1, hv1, hB1⟩; (first | (with_reducible (replace cur := Lib.hid (cur.out.below hB1))) | (with_reducible (replace cur := Lib.hid (cur.out.one.below hB1))) | (with_reducible (replace cur := Lib.hid (F1.out.below hB1)))); have L1 : Hid (Mq u1 Vn A1 m1 c1 es1) := ⟨hl1, hb1, hv1⟩; clear hl1 hb1 hv1 hB1; (first | (have kx := cur.out.first; have x0 := kx.c0; have x1 := kx.c1; have x2 := kx.c2; have xf := kx.fz; have xl := kx.lt; clear kx) | skip))
          | (go_at_call 17; (with_reducible refine (HM2.out _ A1 m1 c1 es1 (by first | (with_reducible exact cur.out.old) | (with_reducible exact F1.out.old) | (with_reducible exact cur.out.a1 _)) (by first | (with_reducible exact L1.out) | (with_reducible exact L1.out.below (below1 _ _))) hm1).mono ?_); rintro e u2 ⟨g2, A2, m2, c2, es2, E2, r2, rfl, hm2, hl2, hb2, ⟨rfl, hg2, hV2, hE2⟩, hB2⟩; (first | (with_reducible (replace cur := Lib.hid (cur.out.below hB2))) | (with_reducible (replace cur := Lib.hid (cur.out.one.below hB2))) | (with_reducible (replace cur := Lib.hid (F1.out.below hB2)))); have L2 : Hid (Mq u2 (val es2) A2 m2 c2 es2 ∧ dh = ⟨g2, val es2, E2⟩) := ⟨⟨hl2, hb2, rfl⟩, by rw [hg2, hV2, hE2]⟩; clear hl2 hb2 hg2 hV2 hE2 hB2; (first | (have kx := cur.out.first; have x0 := kx.c0; have x1 := kx.c1; have x2 := kx.c2; have xf := kx.fz; have xl := kx.lt; clear kx) | skip)))
      all_goals (go_wp2_with fail)
      all_goals go_meet
      all_goals (refine ⟨_, m2, c2, A2, g2, E2, es2, rfl, rfl, hm2, ?_⟩)
      all_goals (first
        | (have t := RelO.last (g := g2) (E := E2) cur.out L2.out.1; have t2 := And.intro t L2.out.2; (with_reducible exact Lib.hid t2))
        | (have t := RelO.ahead (g := g2) (E := E2) cur.out L2.out.1; have t2 := And.intro t L2.out.2; (with_reducible exact Lib.hid t2)))
    case rest =>
      clear cur F1 HO2 HM2 HI0
      obtain ⟨uy, rfl⟩ : ∃ uy, uy = wc := ⟨_, rfl⟩
      obtain ⟨py, my, cy, Ay, gy, Ey, sy, rfl, rfl, hmy, HRy⟩ := hcut
      replace HB := Lib.hid (HB.out.trans (HRy.out.1.1.mono HB.out.size))
      have HY1 : Hid (Bd uy py 32 gy Ay my cy Ey ∧ Lim uy Ay my cy sy ∧ Un z (n * Ut) ⟨gy, val sy, Ey⟩ ∧ ux.heap.size ≤ py) := ⟨HRy.out.1.2.1, HRy.out.1.2.2.1.1, by rw [← HRy.out.2]; exact Hmh.out.2, HRy.out.1.2.2.2⟩
      have hB9 := HRy.out.1.1
      replace HX1 : Hid (Bd uy px 32 gx Ax mx cx Ex ∧ Lim uy Ax mx cx sx ∧ Un z (n * Lt) ⟨gx, val sx, Ex⟩ ∧ (w5.alloc (.cells #[.bool g5a, .slice A5a m5a c5a, .int .i64 e5a, .bool g5b, .slice A5b m5b c5b, .int .i64 e5b] 47)).heap.size ≤ px ∧ px < py) := ⟨HX1.out.1.below hB9, HX1.out.2.1.below hB9, HX1.out.2.2.1, HX1.out.2.2.2, Nat.lt_of_lt_of_le HX1.out.1.lt HY1.out.2.2.2⟩
      clear hB9 HRy Hmh
      have x0 := HX1.out.1.c0
      have x1 := HX1.out.1.c1
      have x2 := HX1.out.1.c2
      have xf := HX1.out.1.fz
      have hne : py ≠ px := Nat.ne_of_gt HX1.out.2.2.2.2
      have j := HY1.out.1.other hne gy Ay my cy Ey
      have y0 := HY1.out.1.c0
      have y1 := HY1.out.1.c1
      have y2 := HY1.out.1.c2
      have z0 := j.c0
      have z1 := j.c1
      have z2 := j.c2
      have zf := j.fz
      have HX2 : Hid (Bd (World.put (World.put uy px gy Ay my cy Ey) py gx Ax mx cx Ex) px 32 gy Ay my cy Ey ∧ Lim (World.put (World.put uy px gy Ay my cy Ey) py gx Ax mx cx Ex) Ay my cy sy) := ⟨(HX1.out.1.put gy Ay my cy Ey).other (Nat.ne_of_lt HX1.out.2.2.2.2) gx Ax mx cx Ex, j.lim (HX1.out.1.lim HY1.out.2.1 gy Ay my cy Ey) gx Ax mx cx Ex⟩
      have HY2 : Hid (Bd (World.put (World.put uy px gy Ay my cy Ey) py gx Ax mx cx Ex) py 32 gx Ax mx cx Ex ∧ Lim (World.put (World.put uy px gy Ay my cy Ey) py gx Ax mx cx Ex) Ax mx cx sx) := ⟨j.put gx Ax mx cx Ex, j.lim (HX1.out.1.lim HX1.out.2.1 gy Ay my cy Ey) gx Ax mx cx Ex⟩
      replace HB := Lib.hid (below_put (below_put HB.out HX1.out.2.2.2.1 gy Ay my cy Ey) (Nat.le_trans HX1.out.2.2.2.1 (Nat.le_of_lt HX1.out.2.2.2.2)) gx Ax mx cx Ex)
      clear hne j
      have HUx : Hid (Un z (n * Ut) ⟨gy, val sy, Ey⟩ ∧ Un z (n * Lt) ⟨gx, val sx, Ex⟩) := ⟨HY1.out.2.2.1, HX1.out.2.2.1⟩
      clear HX1 HY1
      have HM3 : Hid (∀ u, Below (World.put (World.put uy px gy Ay my cy Ey) py gx Ax mx cx Ex).heap.size (World.put (World.put uy px gy Ay my cy Ey) py gx Ax mx cx Ex) u → Calls Tryd.prog 24 #[.agg #[.bool g3b, .slice A3b m3b c3b, .int .i64 e3b]] u (Tells1 u gv Vv m3b Ev)) := fun u hu => minus_any ⟨gv, Vv, Ev⟩ g3b A3b m3b c3b s3b e3b u ((HHq.out.below HB.out).below hu) (by omega) ((HT.out.below HB.out).below hu) Hv.out
      have HM4 : Hid (∀ u, Below (World.put (World.put uy px gy Ay my cy Ey) py gx Ax mx cx Ex).heap.size (World.put (World.put uy px gy Ay my cy Ey) py gx Ax mx cx Ex) u → Calls Tryd.prog 24 #[.agg #[.bool g3a, .slice A3a m3a c3a, .int .i64 e3a]] u (Tells1 u gu Vu m3a Eu)) := fun u hu => minus_any ⟨gu, Vu, Eu⟩ g3a A3a m3a c3a s3a e3a u ((HLq.out.below HB.out).below hu) (by omega) ((HT.out.below HB.out).below hu) Hu.out
      have HI0 := Lib.hid (HIq.out.below HB.out)
      have cur := Lib.hid ((HoldU.start (World.put (World.put uy px gy Ay my cy Ey) py gx Ax mx cx Ex)).below (below_drew _))
      have F1 := (HoldU.start (World.put (World.put uy px gy Ay my cy Ey) py gx Ax mx cx Ex)).one.below (below_drew _)
      have F2 := (HoldU.start (World.put (World.put uy px gy Ay my cy Ey) py gx Ax mx cx Ex)).two.below (below_drew _)
      rw [put_size, put_size] at F1 F2
      replace F1 := Lib.hid F1
      replace F2 := Lib.hid F2
      go_wp2_with fail
      go_cut [17, 18] from 19 (fun s17 s18 wx => ∃ (p r m1 c1 m2 c2 : Nat) (A1 A2 : Option Addr) (es1 es2 : List Nat), s17 = .pointer (some ⟨p, 0, none⟩) ∧ s18 = .pointer (some ⟨r, 0, none⟩) ∧ m1 ≤ 300 ∧ m2 ≤ 300 ∧ Hid (RelU (World.put (World.put uy px gy Ay my cy Ey) py gx Ax mx cx Ex) p gv A1 m1 c1 Ev Vv es1 r gu A2 m2 c2 Eu Vu es2 wx))
      case first =>
        as_aux_lemma =>
        go_region_held3 (fun u => u.cell? ⟨w3.heap.size, 0, none⟩ = some (.bool g3a) ∧ u.cell? ⟨w3.heap.size, 1, none⟩ = some (.slice A3a m3a c3a) ∧ u.cell? ⟨w3.heap.size, 2, none⟩ = some (.int .i64 e3a) ∧ u.cell? ⟨w3.heap.size, 3, none⟩ = some (.bool g3b) ∧ u.cell? ⟨w3.heap.size, 4, none⟩ = some (.slice A3b m3b c3b) ∧ u.cell? ⟨w3.heap.size, 5, none⟩ = some (.int .i64 e3b)) (first | (with_reducible exact HI0.out.all6 cur.out.old) | (with_reducible exact HI0.out.all6 F1.out.old) | (with_reducible exact HI0.out.all6 F2.out.old) | (with_reducible exact HI0.out.all6 (cur.out.a1 _)) | (with_reducible exact HI0.out.all6 (cur.out.a2 _ _)) | (with_reducible exact HI0.out.all6 (cur.out.at1 _ _ _ _ _)) | (with_reducible exact HI0.out.all6 (cur.out.at2 _ _ _ _ _)) | (with_reducible exact HI0.out.all6 (cur.out.at1a _ _ _ _ _ _)) | (with_reducible exact HI0.out.all6 (cur.out.at12 _ _ _ _ _ _ _ _ _ _)) | (with_reducible exact HI0.out.all6 (cur.out.at21 _ _ _ _ _ _ _ _ _ _)))
          (first
            | (go_at_call 24; (with_reducible refine (HM3.out _ (by first | (with_reducible exact cur.out.old) | (with_reducible exact F1.out.old) | (with_reducible exact F2.out.old) | (with_reducible exact cur.out.a1 _) | (with_reducible exact cur.out.a2 _ _))).mono ?_); rintro e u1 ⟨A1, m1, c1, es1, rfl, hm1, hl1, hb1, hv1, hB1⟩; (first | (with_reducible (replace L2 := Lib.hid (L2.out.below hB1))) | (with_reducible (replace L2 := Lib.hid ((L2.out.below (below1 _ (.cells #[.bool false, .slice none 0 0, .int .i64 0] 32))).below hB1))) | (with_reducible (replace L2 := Lib.hid ((L2.out.below (below_2u _ (.cells #[.bool false, .slice none 0 0, .int .i64 0] 32) (.cells #[.bool false, .slice none 0 0, .int .i64 0] 32))).below hB1))) | skip); (first | (with_reducible (replace cur := Lib.hid (cur.out.below hB1))) | (with_reducible (replace cur := Lib.hid (cur.out.one.below hB1))) | (with_reducible (replace cur := Lib.hid (cur.out.two.below hB1))) | (with_reducible (replace cur := Lib.hid (F1.out.below hB1))) | (with_reducible (replace cur := Lib.hid (F2.out.below hB1)))); have L1 : Hid (Mq u1 Vv A1 m1 c1 es1) := ⟨hl1, hb1, hv1⟩; clear hl1 hb1 hv1 hB1; (first | (have kx := cur.out.first; have x0 := kx.c0; have x1 := kx.c1; have x2 := kx.c2; have xf := kx.fz; have xl := kx.lt; clear kx) | skip); (first | (have ky := cur.out.second; have y0 := ky.1.c0; have y1 := ky.1.c1; have y2 := ky.1.c2; have yf := ky.1.fz; have yl := ky.1.lt; have yx := ky.2; clear ky) | skip))
            | (go_at_call 24; (with_reducible refine (HM4.out _ (by first | (with_reducible exact cur.out.old) | (with_reducible exact F1.out.old) | (with_reducible exact F2.out.old) | (with_reducible exact cur.out.a1 _) | (with_reducible exact cur.out.a2 _ _))).mono ?_); rintro e u2 ⟨A2, m2, c2, es2, rfl, hm2, hl2, hb2, hv2, hB2⟩; (first | (with_reducible (replace L1 := Lib.hid (L1.out.below hB2))) | (with_reducible (replace L1 := Lib.hid ((L1.out.below (below1 _ (.cells #[.bool false, .slice none 0 0, .int .i64 0] 32))).below hB2))) | (with_reducible (replace L1 := Lib.hid ((L1.out.below (below_2u _ (.cells #[.bool false, .slice none 0 0, .int .i64 0] 32) (.cells #[.bool false, .slice none 0 0, .int .i64 0] 32))).below hB2))) | skip); (first | (with_reducible (replace cur := Lib.hid (cur.out.below hB2))) | (with_reducible (replace cur := Lib.hid (cur.out.one.below hB2))) | (with_reducible (replace cur := Lib.hid (cur.out.two.below hB2))) | (with_reducible (replace cur := Lib.hid (F1.out.below hB2))) | (with_reducible (replace cur := Lib.hid (F2.out.below hB2)))); have L2 : Hid (Mq u2 Vu A2 m2 c2 es2) := ⟨hl2, hb2, hv2⟩; clear hl2 hb2 hv2 hB2; (first | (have kx := cur.out.first; have x0 := kx.c0; have x1 := kx.c1; have x2 := kx.c2; have xf := kx.fz; have xl := kx.lt; clear kx) | skip); (first | (have ky := cur.out.second; have y0 := ky.1.c0; have y1 := ky.1.c1; have y2 := ky.1.c2; have yf := ky.1.fz; have yl := ky.1.lt; have yx := ky.2; clear ky) | skip)))
        all_goals (go_wp2_with fail)
        all_goals go_meet
        all_goals (refine ⟨_, _, m1, c1, m2, c2, A1, A2, es1, es2, rfl, rfl, by omega, by omega, ?_⟩)
        all_goals (first
          | (have t := RelU.new2 (g1 := gv) (E1 := Ev) (g2 := gu) (E2 := Eu) cur.out L1.out L2.out; (with_reducible exact Lib.hid t))
          | (have t := (RelU.new2 (g1 := gu) (E1 := Eu) (g2 := gv) (E2 := Ev) cur.out L2.out L1.out).swap; (with_reducible exact Lib.hid t))
          | (have t := RelU.new1 (g1 := gv) (E1 := Ev) (g2 := gu) (E2 := Eu) cur.out L1.out L2.out; (with_reducible exact Lib.hid t))
          | (have t := (RelU.new1 (g1 := gu) (E1 := Eu) (g2 := gv) (E2 := Ev) cur.out L2.out L1.out).swap; (with_reducible exact Lib.hid t))
          | (have t := (RelU.new0 (g1 := gv) (E1 := Ev) (g2 := gu) (E2 := Eu) cur.out L1.out L2.out).1; (with_reducible exact Lib.hid t))
          | (have t := (RelU.new0 (g1 := gv) (E1 := Ev) (g2 := gu) (E2 := Eu) cur.out L1.out L2.out).2; (with_reducible exact Lib.hid t))
          | (have t := (RelU.new0 (g1 := gu) (E1 := Eu) (g2 := gv) (E2 := Ev) cur.out L2.out L1.out).1.swap; (with_reducible exact Lib.hid t))
          | (have t := (RelU.new0 (g1 := gu) (E1 := Eu) (g2 := gv) (E2 := Ev) cur.out L2.out L1.out).2.swap; (with_reducible exact Lib.hid t)))
      case rest =>
        clear cur F1 F2 HM3 HM4 HI0 x0 x1 x2 xf y0 y1 y2 z0 z1 z2 zf
        obtain ⟨ur, rfl⟩ : ∃ ur, ur = wc := ⟨_, rfl⟩
        obtain ⟨pv, pu, mv, cv, mu, cu, Av, Au, sv, su, rfl, rfl, hmv, hmu, HR⟩ := hcut
        have hB9 := HR.out.1
        replace HB := Lib.hid (HB.out.trans (hB9.mono HB.out.size))
        replace HT := Lib.hid (HT.out.below HB.out)
        replace HIp := Lib.hid (HIp.out.below HB.out)
        replace HLp := Lib.hid (HLp.out.below HB.out)
        replace HHp := Lib.hid (HHp.out.below HB.out)
        replace HS := Lib.hid (HS.out.trans (HB.out.mono HS.out.size))
        have HX : Hid (Bd ur px 32 gy Ay my cy Ey) := HX2.out.1.below hB9
        have HXl : Hid (Lim ur Ay my cy sy) := HX2.out.2.below hB9
        have HY : Hid (Bd ur py 32 gx Ax mx cx Ex) := HY2.out.1.below hB9
        have HYl : Hid (Lim ur Ax mx cx sx) := HY2.out.2.below hB9
        have HV : Hid (Bd ur pv 32 gv Av mv cv Ev) := HR.out.2.1
        have HVl : Hid (Lim ur Av mv cv sv) := HR.out.2.2.1.1
        have HU : Hid (Bd ur pu 32 gu Au mu cu Eu) := HR.out.2.2.2.1
        have HUl : Hid (Lim ur Au mu cu su) := HR.out.2.2.2.2.1
        have HVU : Hid (val sv = Vv ∧ val su = Vu) := ⟨HR.out.2.2.1.2.2, HR.out.2.2.2.2.2.2⟩
        clear hB9 HB HR HX2 HY2 HIq HLq HHq HIt HLt HHt HQt HQq Hv Hu HOf HBp HBq HBt HNN
        have HIp_0 := HIp.out.x0
        have HIp_1 := HIp.out.x1
        have HIp_2 := HIp.out.x2
        have HIp_3 := HIp.out.x3
        have HIp_4 := HIp.out.x4
        have HIp_5 := HIp.out.x5
        have HY_0 := HY.out.c0
        have HY_1 := HY.out.c1
        have HY_2 := HY.out.c2
        obtain ⟨va, hva⟩ : ∃ v, cmpI (Lp) (n * Lt) = v := ⟨_, rfl⟩
        have cva : decide (va ≤ (0 : Int)) = true := by rw [← hva]; exact decide_eq_true (cmpI_down HPW.out.1)
        have H5 := Lib.hid (dcmp_l va g2a A2a m2a c2a s2a e2a gx Ax mx cx sx Ex ur HLp.out HYl.out (by omega) (by omega) HT.out (by show _ = _; rw [← hva]; exact un_cmp HQp.out.2.1 HUx.out.2))
        clear hva
        go_wp2_with fail
        refine H5.out.mono ?_
        rintro e w6 ⟨rfl, hB⟩
        clear HIp_0 HIp_1 HIp_2 HIp_3 HIp_4 HIp_5 HY_0 HY_1 HY_2
        replace HT : Hid (Tab w6) := HT.out.below hB
        replace HIp : Hid (Ib w6 w2.heap.size g2a A2a m2a c2a e2a g2b A2b m2b c2b e2b) := HIp.out.below hB
        replace HLp : Hid (Lim w6 A2a m2a c2a s2a) := HLp.out.below hB
        replace HHp : Hid (Lim w6 A2b m2b c2b s2b) := HHp.out.below hB
        replace HX : Hid (Bd w6 px 32 gy Ay my cy Ey) := HX.out.below hB
        replace HXl : Hid (Lim w6 Ay my cy sy) := HXl.out.below hB
        replace HY : Hid (Bd w6 py 32 gx Ax mx cx Ex) := HY.out.below hB
        replace HYl : Hid (Lim w6 Ax mx cx sx) := HYl.out.below hB
        replace HV : Hid (Bd w6 pv 32 gv Av mv cv Ev) := HV.out.below hB
        replace HVl : Hid (Lim w6 Av mv cv sv) := HVl.out.below hB
        replace HU : Hid (Bd w6 pu 32 gu Au mu cu Eu) := HU.out.below hB
        replace HUl : Hid (Lim w6 Au mu cu su) := HUl.out.below hB
        replace HS := Lib.hid (HS.out.trans (hB.mono HS.out.size))
        clear hB H5
        have HX_0 := HX.out.c0
        have HX_1 := HX.out.c1
        have HX_2 := HX.out.c2
        have HIp_0 := HIp.out.x0
        have HIp_1 := HIp.out.x1
        have HIp_2 := HIp.out.x2
        have HIp_3 := HIp.out.x3
        have HIp_4 := HIp.out.x4
        have HIp_5 := HIp.out.x5
        obtain ⟨vb, hvb⟩ : ∃ v, cmpI (n * Ut) (Up) = v := ⟨_, rfl⟩
        have cvb : decide (vb ≤ (0 : Int)) = true := by rw [← hvb]; exact decide_eq_true (cmpI_down HPW.out.2.1)
        have H5 := Lib.hid (dcmp_l vb gy Ay my cy sy Ey g2b A2b m2b c2b s2b e2b w6 HXl.out HHp.out (by omega) (by omega) HT.out (by show _ = _; rw [← hvb]; exact un_cmp HUx.out.1 HQp.out.2.2))
        clear hvb
        go_wp2_with fail
        refine H5.out.mono ?_
        rintro e w7 ⟨rfl, hB⟩
        clear HX_0 HX_1 HX_2 HIp_0 HIp_1 HIp_2 HIp_3 HIp_4 HIp_5
        replace HT : Hid (Tab w7) := HT.out.below hB
        replace HIp : Hid (Ib w7 w2.heap.size g2a A2a m2a c2a e2a g2b A2b m2b c2b e2b) := HIp.out.below hB
        replace HLp : Hid (Lim w7 A2a m2a c2a s2a) := HLp.out.below hB
        replace HHp : Hid (Lim w7 A2b m2b c2b s2b) := HHp.out.below hB
        replace HX : Hid (Bd w7 px 32 gy Ay my cy Ey) := HX.out.below hB
        replace HXl : Hid (Lim w7 Ay my cy sy) := HXl.out.below hB
        replace HY : Hid (Bd w7 py 32 gx Ax mx cx Ex) := HY.out.below hB
        replace HYl : Hid (Lim w7 Ax mx cx sx) := HYl.out.below hB
        replace HV : Hid (Bd w7 pv 32 gv Av mv cv Ev) := HV.out.below hB
        replace HVl : Hid (Lim w7 Av mv cv sv) := HVl.out.below hB
        replace HU : Hid (Bd w7 pu 32 gu Au mu cu Eu) := HU.out.below hB
        replace HUl : Hid (Lim w7 Au mu cu su) := HUl.out.below hB
        replace HS := Lib.hid (HS.out.trans (hB.mono HS.out.size))
        clear hB H5
        have HV_0 := HV.out.c0
        have HV_1 := HV.out.c1
        have HV_2 := HV.out.c2
        have HIp_0 := HIp.out.x0
        have HIp_1 := HIp.out.x1
        have HIp_2 := HIp.out.x2
        have HIp_3 := HIp.out.x3
        have HIp_4 := HIp.out.x4
        have HIp_5 := HIp.out.x5
        obtain ⟨vc, hvc⟩ : ∃ v, cmpI (-Uq) (Up) = v := ⟨_, rfl⟩
        have cvc : decide (vc ≤ (0 : Int)) = true := by rw [← hvc]; exact decide_eq_true (cmpI_down HPW.out.2.2.1)
        have H5 := Lib.hid (dcmp_l vc gv Av mv cv sv Ev g2b A2b m2b c2b s2b e2b w7 HVl.out HHp.out (by omega) (by omega) HT.out (by show _ = _; rw [← hvc]; have h := Hvu.out.1; rw [← HVU.out.1] at h; exact un_cmp h HQp.out.2.2))
        clear hvc
        go_wp2_with fail
        refine H5.out.mono ?_
        rintro e w8 ⟨rfl, hB⟩
        clear HV_0 HV_1 HV_2 HIp_0 HIp_1 HIp_2 HIp_3 HIp_4 HIp_5
        replace HT : Hid (Tab w8) := HT.out.below hB
        replace HIp : Hid (Ib w8 w2.heap.size g2a A2a m2a c2a e2a g2b A2b m2b c2b e2b) := HIp.out.below hB
        replace HLp : Hid (Lim w8 A2a m2a c2a s2a) := HLp.out.below hB
        replace HHp : Hid (Lim w8 A2b m2b c2b s2b) := HHp.out.below hB
        replace HX : Hid (Bd w8 px 32 gy Ay my cy Ey) := HX.out.below hB
        replace HXl : Hid (Lim w8 Ay my cy sy) := HXl.out.below hB
        replace HY : Hid (Bd w8 py 32 gx Ax mx cx Ex) := HY.out.below hB
        replace HYl : Hid (Lim w8 Ax mx cx sx) := HYl.out.below hB
        replace HV : Hid (Bd w8 pv 32 gv Av mv cv Ev) := HV.out.below hB
        replace HVl : Hid (Lim w8 Av mv cv sv) := HVl.out.below hB
        replace HU : Hid (Bd w8 pu 32 gu Au mu cu Eu) := HU.out.below hB
        replace HUl : Hid (Lim w8 Au mu cu su) := HUl.out.below hB
        replace HS := Lib.hid (HS.out.trans (hB.mono HS.out.size))
        clear hB H5
        have HIp_0 := HIp.out.x0
        have HIp_1 := HIp.out.x1
        have HIp_2 := HIp.out.x2
        have HIp_3 := HIp.out.x3
        have HIp_4 := HIp.out.x4
        have HIp_5 := HIp.out.x5
        have HU_0 := HU.out.c0
        have HU_1 := HU.out.c1
        have HU_2 := HU.out.c2
        obtain ⟨vd, hvd⟩ : ∃ v, cmpI (Lp) (-Lq) = v := ⟨_, rfl⟩
        have cvd : decide (vd ≤ (0 : Int)) = true := by rw [← hvd]; exact decide_eq_true (cmpI_down HPW.out.2.2.2)
        have H5 := Lib.hid (dcmp_l vd g2a A2a m2a c2a s2a e2a gu Au mu cu su Eu w8 HLp.out HUl.out (by omega) (by omega) HT.out (by show _ = _; rw [← hvd]; have h := Hvu.out.2; rw [← HVU.out.2] at h; exact un_cmp HQp.out.2.1 h))
        clear hvd
        go_wp2_with fail
        refine H5.out.mono ?_
        rintro e w9 ⟨rfl, hB⟩
        clear HIp_0 HIp_1 HIp_2 HIp_3 HIp_4 HIp_5 HU_0 HU_1 HU_2
        replace HT : Hid (Tab w9) := HT.out.below hB
        replace HIp : Hid (Ib w9 w2.heap.size g2a A2a m2a c2a e2a g2b A2b m2b c2b e2b) := HIp.out.below hB
        replace HLp : Hid (Lim w9 A2a m2a c2a s2a) := HLp.out.below hB
        replace HHp : Hid (Lim w9 A2b m2b c2b s2b) := HHp.out.below hB
        replace HX : Hid (Bd w9 px 32 gy Ay my cy Ey) := HX.out.below hB
        replace HXl : Hid (Lim w9 Ay my cy sy) := HXl.out.below hB
        replace HY : Hid (Bd w9 py 32 gx Ax mx cx Ex) := HY.out.below hB
        replace HYl : Hid (Lim w9 Ax mx cx sx) := HYl.out.below hB
        replace HV : Hid (Bd w9 pv 32 gv Av mv cv Ev) := HV.out.below hB
        replace HVl : Hid (Lim w9 Av mv cv sv) := HVl.out.below hB
        replace HU : Hid (Bd w9 pu 32 gu Au mu cu Eu) := HU.out.below hB
        replace HUl : Hid (Lim w9 Au mu cu su) := HUl.out.below hB
        replace HS := Lib.hid (HS.out.trans (hB.mono HS.out.size))
        clear hB H5
        have Hfin := Lib.hid HS.out
        clear HS HQp HUx Hvu HVU HPW HT HIp HLp HHp HX HXl HY HYl HV HVl HU HUl
        go_wp2
        go_ret
        exact ⟨rfl, Hfin.out⟩

end Go.Proofs.YtpbggonfdaealaaDoor
