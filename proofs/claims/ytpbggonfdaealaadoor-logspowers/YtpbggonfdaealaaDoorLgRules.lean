/- The walk of the law LogsRules (written by law_lrules.py). -/
import Derived.Test.YtpbggonfdaealaaDoorLgLaw
namespace Go.Proofs.YtpbggonfdaealaaDoor
open Go.RowKit

theorem lval_one (x : Nat) : val [x] = x := by simp [val]
/-- Two lists of one limb and two dyads over them, in new blocks. -/
theorem four_laid (w : World) (a b : Nat) (i k : Int) (ha : a < 18446744073709551616) (hb : b < 18446744073709551616) :
    Below w.heap.size w ((((w.alloc (.cells #[.int .u64 (a : Int)] 40)).alloc (.cells #[.int .u64 (b : Int)] 40)).alloc (.cells #[.bool false, .slice (some ⟨w.heap.size, 0, none⟩) 1 1, .int .i64 i] 32)).alloc (.cells #[.bool false, .slice (some ⟨w.heap.size + 1, 0, none⟩) 1 1, .int .i64 k] 32)) ∧ Lim ((((w.alloc (.cells #[.int .u64 (a : Int)] 40)).alloc (.cells #[.int .u64 (b : Int)] 40)).alloc (.cells #[.bool false, .slice (some ⟨w.heap.size, 0, none⟩) 1 1, .int .i64 i] 32)).alloc (.cells #[.bool false, .slice (some ⟨w.heap.size + 1, 0, none⟩) 1 1, .int .i64 k] 32)) (some ⟨w.heap.size, 0, none⟩) 1 1 [a] ∧ Lim ((((w.alloc (.cells #[.int .u64 (a : Int)] 40)).alloc (.cells #[.int .u64 (b : Int)] 40)).alloc (.cells #[.bool false, .slice (some ⟨w.heap.size, 0, none⟩) 1 1, .int .i64 i] 32)).alloc (.cells #[.bool false, .slice (some ⟨w.heap.size + 1, 0, none⟩) 1 1, .int .i64 k] 32)) (some ⟨w.heap.size + 1, 0, none⟩) 1 1 [b] ∧
    Bd ((((w.alloc (.cells #[.int .u64 (a : Int)] 40)).alloc (.cells #[.int .u64 (b : Int)] 40)).alloc (.cells #[.bool false, .slice (some ⟨w.heap.size, 0, none⟩) 1 1, .int .i64 i] 32)).alloc (.cells #[.bool false, .slice (some ⟨w.heap.size + 1, 0, none⟩) 1 1, .int .i64 k] 32)) (w.heap.size + 1 + 1) 32 false (some ⟨w.heap.size, 0, none⟩) 1 1 i ∧ Bd ((((w.alloc (.cells #[.int .u64 (a : Int)] 40)).alloc (.cells #[.int .u64 (b : Int)] 40)).alloc (.cells #[.bool false, .slice (some ⟨w.heap.size, 0, none⟩) 1 1, .int .i64 i] 32)).alloc (.cells #[.bool false, .slice (some ⟨w.heap.size + 1, 0, none⟩) 1 1, .int .i64 k] 32)) (w.heap.size + 1 + 1 + 1) 32 false (some ⟨w.heap.size + 1, 0, none⟩) 1 1 k := by
  have l1 := lim_new1 w 40 a (a : Int) rfl ha
  have l2 := lim_new1 (w.alloc (.cells #[.int .u64 (a : Int)] 40)) 40 b (b : Int) rfl hb
  have b1 := below1 w (.cells #[.int .u64 (a : Int)] 40)
  have b2 := below1 (w.alloc (.cells #[.int .u64 (a : Int)] 40)) (.cells #[.int .u64 (b : Int)] 40)
  have b3 := below1 ((w.alloc (.cells #[.int .u64 (a : Int)] 40)).alloc (.cells #[.int .u64 (b : Int)] 40)) (.cells #[.bool false, .slice (some ⟨w.heap.size, 0, none⟩) 1 1, .int .i64 i] 32)
  have b4 := below1 (((w.alloc (.cells #[.int .u64 (a : Int)] 40)).alloc (.cells #[.int .u64 (b : Int)] 40)).alloc (.cells #[.bool false, .slice (some ⟨w.heap.size, 0, none⟩) 1 1, .int .i64 i] 32)) (.cells #[.bool false, .slice (some ⟨w.heap.size + 1, 0, none⟩) 1 1, .int .i64 k] 32)
  have n3 := Bd.new ((w.alloc (.cells #[.int .u64 (a : Int)] 40)).alloc (.cells #[.int .u64 (b : Int)] 40)) 32 false (some ⟨w.heap.size, 0, none⟩) 1 1 i
  have n4 := Bd.new (((w.alloc (.cells #[.int .u64 (a : Int)] 40)).alloc (.cells #[.int .u64 (b : Int)] 40)).alloc (.cells #[.bool false, .slice (some ⟨w.heap.size, 0, none⟩) 1 1, .int .i64 i] 32)) 32 false (some ⟨w.heap.size + 1, 0, none⟩) 1 1 k
  rw [World.size_alloc] at l2
  rw [World.size_alloc, World.size_alloc] at n3
  rw [World.size_alloc, World.size_alloc, World.size_alloc] at n4
  have c2 := b1.trans (b2.mono b1.size)
  have c3 := c2.trans (b3.mono c2.size)
  exact ⟨c3.trans (b4.mono c3.size), ((l1.below b2).below b3).below b4, (l2.below b3).below b4, n3.below b4, n4⟩

set_option maxHeartbeats 1000000 in
set_option maxRecDepth 20000 in
theorem lrules_nought (a b s : Nat) (i k : Int) (w : World) (hT : Tab w) (h : a = 0 ∨ b = 0) :
    Calls Tryd.prog 4 #[.int .u64 (a : Int), .int .u64 (b : Int), .int .i8 i, .int .i8 k, .int .u8 (s : Int)] w fun e w' => e = .returned (.bool true) ∧ Below w.heap.size w w' := by
  have H1 := Lib.hid (lalive_any w hT)
  clear hT
  by_cases h0 : a = 0
  · subst h0
    clear h
    go_enter Tryd.func4, Tryd.ntmps4
    go_wp2_with fail
    refine H1.out.mono ?_
    rintro e w1 ⟨rfl, hB1⟩
    have Hfin := Lib.hid hB1
    clear hB1 H1
    go_wp2
    go_ret
    exact ⟨rfl, Hfin.out⟩
  · have b0 : ((a : Int) == 0) = false := beq_no (by omega)
    obtain rfl : b = 0 := by omega
    clear h h0
    go_enter Tryd.func4, Tryd.ntmps4
    go_wp2_with fail
    refine H1.out.mono ?_
    rintro e w1 ⟨rfl, hB1⟩
    have Hfin := Lib.hid hB1
    clear hB1 H1
    go_wp2
    go_ret
    exact ⟨rfl, Hfin.out⟩

theorem cmpI_down {x y : Int} (h : x ≤ y) : cmpI x y ≤ 0 := by
  rcases Int.lt_trichotomy x y with h1 | h1 | h1
  · rw [cmpI_lt h1]; decide
  · rw [cmpI_eq h1]; decide
  · omega
theorem cmpI_up {x y : Int} (h : y ≤ x) : 0 ≤ cmpI x y := by
  rcases Int.lt_trichotomy x y with h1 | h1 | h1
  · omega
  · rw [cmpI_eq h1]; decide
  · rw [cmpI_gt h1]; decide

set_option maxHeartbeats 8000000 in
set_option maxRecDepth 20000 in
theorem lrules_lt (a b s : Nat) (i k : Int) (w : World) (hT : Tab w) (ha : a < 18446744073709551616) (hb : b < 18446744073709551616) (ha0 : a ≠ 0) (hb0 : b ≠ 0) (hi1 : -128 ≤ i) (hi2 : i ≤ 127) (hk1 : -128 ≤ k) (hk2 : k ≤ 127) (hs : s ≤ 255) (hc : cmpI (dw false a i) (dw false b k) < 0) :
    Calls Tryd.prog 4 #[.int .u64 (a : Int), .int .u64 (b : Int), .int .i8 i, .int .i8 k, .int .u8 (s : Int)] w fun e w' => e = .returned (.bool true) ∧ Below w.heap.size w w' := by
  obtain ⟨dx, dy, dp, mx, my, mp, lx, ly, rx, ry, np, dq, mq, lq, pq, rq⟩ := prod_of ha0 hb0 ha hb (show -1000 ≤ i by omega) (show i ≤ 1000 by omega) (show -1000 ≤ k by omega) (show k ≤ 1000 by omega)
  have H1 := Lib.hid (lalive_any w hT)
  have HT := Lib.hid hT
  have HS := Lib.hid (Below.refl w.heap.size w)
  have HD : Hid ((mk false a i = some dx ∧ mk false b k = some dy ∧ mulO (mk false a i) (mk false b k) = some dp) ∧ (LogD dx ∧ LogD dy ∧ LogD dq) ∧ (rat false dx.V dx.e = rat false a i ∧ rat false dy.V dy.e = rat false b k ∧ rat false dq.V dq.e = rat false dx.V dx.e * rat false dy.V dy.e) ∧ dp.neg = false ∧ mk false dp.V dp.e = some dq ∧ dp.V ≠ 0) := ⟨⟨mx, my, mp⟩, ⟨lx, ly, lq⟩, ⟨rx, ry, rq⟩, np, mq, pq⟩
  have b0 : ((a : Int) == 0) = false := beq_no (by omega)
  have b1 : ((b : Int) == 0) = false := beq_no (by omega)
  obtain ⟨z, hz⟩ : ∃ z, 16 + s = z := ⟨_, rfl⟩
  have ez : (16 : Int) + (s : Int) = (z : Int) := by omega
  have hz9 : z ≤ 271 := by omega
  have hz8 : 16 ≤ z := by omega
  obtain ⟨cc, hcc⟩ : ∃ c, cmpI (dw false a i) (dw false b k) = c := ⟨_, rfl⟩
  have HC : Hid (cmpI (dw false a i) (dw false b k) = cc ∧ cc < 0) := ⟨hcc, by rw [← hcc]; exact hc⟩
  obtain ⟨oo, hoo⟩ : ∃ c, cmpI (dw false a i) (dw false 1 0) = c := ⟨_, rfl⟩
  have HO := Lib.hid hoo
  have h4 := four_laid
  have HAB : Hid (a < 18446744073709551616 ∧ b < 18446744073709551616) := ⟨ha, hb⟩
  clear hT mx my mp lx ly rx ry np mq lq pq rq hz hcc hc hoo ha0 hb0 h4
  go_enter Tryd.func4, Tryd.ntmps4
  go_wp2_with fail
  refine H1.out.mono ?_
  rintro e w1 ⟨rfl, hB⟩
  replace HT : Hid (Tab w1) := HT.out.below hB
  replace HS := Lib.hid (HS.out.trans (hB.mono HS.out.size))
  clear hB H1
  have f4 := four_laid w1 a b i k HAB.out.1 HAB.out.2
  replace HT : Hid (Tab ((((w1.alloc (.cells #[.int .u64 (a : Int)] 40)).alloc (.cells #[.int .u64 (b : Int)] 40)).alloc (.cells #[.bool false, .slice (some ⟨w1.heap.size, 0, none⟩) 1 1, .int .i64 i] 32)).alloc (.cells #[.bool false, .slice (some ⟨w1.heap.size + 1, 0, none⟩) 1 1, .int .i64 k] 32))) := HT.out.below f4.1
  replace HS := Lib.hid (HS.out.trans (f4.1.mono HS.out.size))
  have HXl : Hid (Lim ((((w1.alloc (.cells #[.int .u64 (a : Int)] 40)).alloc (.cells #[.int .u64 (b : Int)] 40)).alloc (.cells #[.bool false, .slice (some ⟨w1.heap.size, 0, none⟩) 1 1, .int .i64 i] 32)).alloc (.cells #[.bool false, .slice (some ⟨w1.heap.size + 1, 0, none⟩) 1 1, .int .i64 k] 32)) (some ⟨w1.heap.size, 0, none⟩) 1 1 [a]) := f4.2.1
  have HYl : Hid (Lim ((((w1.alloc (.cells #[.int .u64 (a : Int)] 40)).alloc (.cells #[.int .u64 (b : Int)] 40)).alloc (.cells #[.bool false, .slice (some ⟨w1.heap.size, 0, none⟩) 1 1, .int .i64 i] 32)).alloc (.cells #[.bool false, .slice (some ⟨w1.heap.size + 1, 0, none⟩) 1 1, .int .i64 k] 32)) (some ⟨w1.heap.size + 1, 0, none⟩) 1 1 [b]) := f4.2.2.1
  have HX : Hid (Bd ((((w1.alloc (.cells #[.int .u64 (a : Int)] 40)).alloc (.cells #[.int .u64 (b : Int)] 40)).alloc (.cells #[.bool false, .slice (some ⟨w1.heap.size, 0, none⟩) 1 1, .int .i64 i] 32)).alloc (.cells #[.bool false, .slice (some ⟨w1.heap.size + 1, 0, none⟩) 1 1, .int .i64 k] 32)) (w1.heap.size + 1 + 1) 32 false (some ⟨w1.heap.size, 0, none⟩) 1 1 i) := f4.2.2.2.1
  have HY : Hid (Bd ((((w1.alloc (.cells #[.int .u64 (a : Int)] 40)).alloc (.cells #[.int .u64 (b : Int)] 40)).alloc (.cells #[.bool false, .slice (some ⟨w1.heap.size, 0, none⟩) 1 1, .int .i64 i] 32)).alloc (.cells #[.bool false, .slice (some ⟨w1.heap.size + 1, 0, none⟩) 1 1, .int .i64 k] 32)) (w1.heap.size + 1 + 1 + 1) 32 false (some ⟨w1.heap.size + 1, 0, none⟩) 1 1 k) := f4.2.2.2.2
  clear f4 HAB
  have H2 := Lib.hid (dmul_any (some dp) false (some ⟨w1.heap.size, 0, none⟩) 1 1 [a] i false (some ⟨w1.heap.size + 1, 0, none⟩) 1 1 [b] k ((((w1.alloc (.cells #[.int .u64 (a : Int)] 40)).alloc (.cells #[.int .u64 (b : Int)] 40)).alloc (.cells #[.bool false, .slice (some ⟨w1.heap.size, 0, none⟩) 1 1, .int .i64 i] 32)).alloc (.cells #[.bool false, .slice (some ⟨w1.heap.size + 1, 0, none⟩) 1 1, .int .i64 k] 32)) HXl.out HYl.out (by decide) (by decide) HT.out (by show _ = _; rw [lval_one, lval_one]; exact HD.out.1.2.2))
  have HX_0 := HX.out.c0
  have HX_1 := HX.out.c1
  have HX_2 := HX.out.c2
  have HY_0 := HY.out.c0
  have HY_1 := HY.out.c1
  have HY_2 := HY.out.c2
  go_wp2_with fail
  refine H2.out.mono ?_
  rintro e w2 ⟨gp, Ap, mp, cp, ps, Ep, rp, rfl, hmp, hlp, hbp, ⟨rfl, hgp, hVp, hEp⟩, hB⟩
  clear HX_0 HX_1 HX_2 HY_0 HY_1 HY_2
  replace HT : Hid (Tab w2) := HT.out.below hB
  replace HXl : Hid (Lim w2 (some ⟨w1.heap.size, 0, none⟩) 1 1 [a]) := HXl.out.below hB
  replace HYl : Hid (Lim w2 (some ⟨w1.heap.size + 1, 0, none⟩) 1 1 [b]) := HYl.out.below hB
  replace HX : Hid (Bd w2 (w1.heap.size + 1 + 1) 32 false (some ⟨w1.heap.size, 0, none⟩) 1 1 i) := HX.out.below hB
  replace HY : Hid (Bd w2 (w1.heap.size + 1 + 1 + 1) 32 false (some ⟨w1.heap.size + 1, 0, none⟩) 1 1 k) := HY.out.below hB
  replace HS := Lib.hid (HS.out.trans (hB.mono HS.out.size))
  obtain ⟨pgx, pV, pEx⟩ := dp
  dsimp only at *
  subst hgp hEp
  have HPl : Hid (Lim w2 Ap mp cp ps) := hlp
  have HPv : Hid (Bare ps ∧ val ps = pV) := ⟨hbp, hVp⟩
  clear hlp hbp hVp hB H2
  have ba := below1 w2 (.cells #[.bool gp, .slice Ap mp cp, .int .i64 Ep] 32)
  replace HT : Hid (Tab (w2.alloc (.cells #[.bool gp, .slice Ap mp cp, .int .i64 Ep] 32))) := HT.out.below ba
  replace HXl : Hid (Lim (w2.alloc (.cells #[.bool gp, .slice Ap mp cp, .int .i64 Ep] 32)) (some ⟨w1.heap.size, 0, none⟩) 1 1 [a]) := HXl.out.below ba
  replace HYl : Hid (Lim (w2.alloc (.cells #[.bool gp, .slice Ap mp cp, .int .i64 Ep] 32)) (some ⟨w1.heap.size + 1, 0, none⟩) 1 1 [b]) := HYl.out.below ba
  replace HX : Hid (Bd (w2.alloc (.cells #[.bool gp, .slice Ap mp cp, .int .i64 Ep] 32)) (w1.heap.size + 1 + 1) 32 false (some ⟨w1.heap.size, 0, none⟩) 1 1 i) := HX.out.below ba
  replace HY : Hid (Bd (w2.alloc (.cells #[.bool gp, .slice Ap mp cp, .int .i64 Ep] 32)) (w1.heap.size + 1 + 1 + 1) 32 false (some ⟨w1.heap.size + 1, 0, none⟩) 1 1 k) := HY.out.below ba
  replace HPl : Hid (Lim (w2.alloc (.cells #[.bool gp, .slice Ap mp cp, .int .i64 Ep] 32)) Ap mp cp ps) := HPl.out.below ba
  replace HS := Lib.hid (HS.out.trans (ba.mono HS.out.size))
  clear ba
  have HP : Hid (Bd (w2.alloc (.cells #[.bool gp, .slice Ap mp cp, .int .i64 Ep] 32)) w2.heap.size 32 gp Ap mp cp Ep) := Bd.new w2 32 gp Ap mp cp Ep
  have HX_0 := HX.out.c0
  have HX_1 := HX.out.c1
  have HX_2 := HX.out.c2
  have H3 := log_lg false (some ⟨w1.heap.size, 0, none⟩) 1 1 [a] i (z : Int) (w2.alloc (.cells #[.bool gp, .slice Ap mp cp, .int .i64 Ep] 32)) HXl.out (by omega) HT.out (by omega) (by omega)
  rw [lval_one] at H3
  replace H3 := Lib.hid H3
  go_wp2_with fail
  refine H3.out.mono ?_
  rintro e w3 ⟨g3a, A3a, m3a, c3a, s3a, e3a, g3b, A3b, m3b, c3b, s3b, e3b, r3, rfl, hm3a, hm3b, hl3a, hl3b, hb3a, hb3b, hB, hq⟩
  clear HX_0 HX_1 HX_2
  replace HT : Hid (Tab w3) := HT.out.below hB
  replace HXl : Hid (Lim w3 (some ⟨w1.heap.size, 0, none⟩) 1 1 [a]) := HXl.out.below hB
  replace HYl : Hid (Lim w3 (some ⟨w1.heap.size + 1, 0, none⟩) 1 1 [b]) := HYl.out.below hB
  replace HX : Hid (Bd w3 (w1.heap.size + 1 + 1) 32 false (some ⟨w1.heap.size, 0, none⟩) 1 1 i) := HX.out.below hB
  replace HY : Hid (Bd w3 (w1.heap.size + 1 + 1 + 1) 32 false (some ⟨w1.heap.size + 1, 0, none⟩) 1 1 k) := HY.out.below hB
  replace HPl : Hid (Lim w3 Ap mp cp ps) := HPl.out.below hB
  replace HP : Hid (Bd w3 w2.heap.size 32 gp Ap mp cp Ep) := HP.out.below hB
  replace HS := Lib.hid (HS.out.trans (hB.mono HS.out.size))
  have HLl : Hid (Lim w3 A3a m3a c3a s3a) := hl3a
  have HHl : Hid (Lim w3 A3b m3b c3b s3b) := hl3b
  have HBl : Hid (Bare s3a ∧ Bare s3b) := ⟨hb3a, hb3b⟩
  obtain ⟨rfl, Ll, Ul, hVl, hLl, hUl⟩ := logp_yes hq HD.out.1.1 HD.out.2.1.1 (by omega) (by omega)
  rw [Int.toNat_natCast] at hVl hLl hUl
  have HQl : Hid (LogV dx z Ll Ul ∧ Un z Ll ⟨g3a, val s3a, e3a⟩ ∧ Un z Ul ⟨g3b, val s3b, e3b⟩) := ⟨hVl, hLl, hUl⟩
  clear hVl hLl hUl
  clear hl3a hl3b hb3a hb3b hB hq H3
  have ba := below1 w3 (.cells #[.bool g3a, .slice A3a m3a c3a, .int .i64 e3a, .bool g3b, .slice A3b m3b c3b, .int .i64 e3b] 47)
  replace HT : Hid (Tab (w3.alloc (.cells #[.bool g3a, .slice A3a m3a c3a, .int .i64 e3a, .bool g3b, .slice A3b m3b c3b, .int .i64 e3b] 47))) := HT.out.below ba
  replace HXl : Hid (Lim (w3.alloc (.cells #[.bool g3a, .slice A3a m3a c3a, .int .i64 e3a, .bool g3b, .slice A3b m3b c3b, .int .i64 e3b] 47)) (some ⟨w1.heap.size, 0, none⟩) 1 1 [a]) := HXl.out.below ba
  replace HYl : Hid (Lim (w3.alloc (.cells #[.bool g3a, .slice A3a m3a c3a, .int .i64 e3a, .bool g3b, .slice A3b m3b c3b, .int .i64 e3b] 47)) (some ⟨w1.heap.size + 1, 0, none⟩) 1 1 [b]) := HYl.out.below ba
  replace HX : Hid (Bd (w3.alloc (.cells #[.bool g3a, .slice A3a m3a c3a, .int .i64 e3a, .bool g3b, .slice A3b m3b c3b, .int .i64 e3b] 47)) (w1.heap.size + 1 + 1) 32 false (some ⟨w1.heap.size, 0, none⟩) 1 1 i) := HX.out.below ba
  replace HY : Hid (Bd (w3.alloc (.cells #[.bool g3a, .slice A3a m3a c3a, .int .i64 e3a, .bool g3b, .slice A3b m3b c3b, .int .i64 e3b] 47)) (w1.heap.size + 1 + 1 + 1) 32 false (some ⟨w1.heap.size + 1, 0, none⟩) 1 1 k) := HY.out.below ba
  replace HPl : Hid (Lim (w3.alloc (.cells #[.bool g3a, .slice A3a m3a c3a, .int .i64 e3a, .bool g3b, .slice A3b m3b c3b, .int .i64 e3b] 47)) Ap mp cp ps) := HPl.out.below ba
  replace HP : Hid (Bd (w3.alloc (.cells #[.bool g3a, .slice A3a m3a c3a, .int .i64 e3a, .bool g3b, .slice A3b m3b c3b, .int .i64 e3b] 47)) w2.heap.size 32 gp Ap mp cp Ep) := HP.out.below ba
  replace HLl : Hid (Lim (w3.alloc (.cells #[.bool g3a, .slice A3a m3a c3a, .int .i64 e3a, .bool g3b, .slice A3b m3b c3b, .int .i64 e3b] 47)) A3a m3a c3a s3a) := HLl.out.below ba
  replace HHl : Hid (Lim (w3.alloc (.cells #[.bool g3a, .slice A3a m3a c3a, .int .i64 e3a, .bool g3b, .slice A3b m3b c3b, .int .i64 e3b] 47)) A3b m3b c3b s3b) := HHl.out.below ba
  replace HS := Lib.hid (HS.out.trans (ba.mono HS.out.size))
  clear ba
  have HIl : Hid (Ib (w3.alloc (.cells #[.bool g3a, .slice A3a m3a c3a, .int .i64 e3a, .bool g3b, .slice A3b m3b c3b, .int .i64 e3b] 47)) w3.heap.size g3a A3a m3a c3a e3a g3b A3b m3b c3b e3b) := Ib.new w3 g3a A3a m3a c3a e3a g3b A3b m3b c3b e3b
  have HY_0 := HY.out.c0
  have HY_1 := HY.out.c1
  have HY_2 := HY.out.c2
  have H3 := log_lg false (some ⟨w1.heap.size + 1, 0, none⟩) 1 1 [b] k (z : Int) (w3.alloc (.cells #[.bool g3a, .slice A3a m3a c3a, .int .i64 e3a, .bool g3b, .slice A3b m3b c3b, .int .i64 e3b] 47)) HYl.out (by omega) HT.out (by omega) (by omega)
  rw [lval_one] at H3
  replace H3 := Lib.hid H3
  go_wp2_with fail
  refine H3.out.mono ?_
  rintro e w4 ⟨g4a, A4a, m4a, c4a, s4a, e4a, g4b, A4b, m4b, c4b, s4b, e4b, r4, rfl, hm4a, hm4b, hl4a, hl4b, hb4a, hb4b, hB, hq⟩
  clear HY_0 HY_1 HY_2
  replace HT : Hid (Tab w4) := HT.out.below hB
  replace HXl : Hid (Lim w4 (some ⟨w1.heap.size, 0, none⟩) 1 1 [a]) := HXl.out.below hB
  replace HYl : Hid (Lim w4 (some ⟨w1.heap.size + 1, 0, none⟩) 1 1 [b]) := HYl.out.below hB
  replace HX : Hid (Bd w4 (w1.heap.size + 1 + 1) 32 false (some ⟨w1.heap.size, 0, none⟩) 1 1 i) := HX.out.below hB
  replace HY : Hid (Bd w4 (w1.heap.size + 1 + 1 + 1) 32 false (some ⟨w1.heap.size + 1, 0, none⟩) 1 1 k) := HY.out.below hB
  replace HPl : Hid (Lim w4 Ap mp cp ps) := HPl.out.below hB
  replace HP : Hid (Bd w4 w2.heap.size 32 gp Ap mp cp Ep) := HP.out.below hB
  replace HLl : Hid (Lim w4 A3a m3a c3a s3a) := HLl.out.below hB
  replace HHl : Hid (Lim w4 A3b m3b c3b s3b) := HHl.out.below hB
  replace HIl : Hid (Ib w4 w3.heap.size g3a A3a m3a c3a e3a g3b A3b m3b c3b e3b) := HIl.out.below hB
  replace HS := Lib.hid (HS.out.trans (hB.mono HS.out.size))
  have HLm : Hid (Lim w4 A4a m4a c4a s4a) := hl4a
  have HHm : Hid (Lim w4 A4b m4b c4b s4b) := hl4b
  have HBm : Hid (Bare s4a ∧ Bare s4b) := ⟨hb4a, hb4b⟩
  obtain ⟨rfl, Lm, Um, hVm, hLm, hUm⟩ := logp_yes hq HD.out.1.2.1 HD.out.2.1.2.1 (by omega) (by omega)
  rw [Int.toNat_natCast] at hVm hLm hUm
  have HQm : Hid (LogV dy z Lm Um ∧ Un z Lm ⟨g4a, val s4a, e4a⟩ ∧ Un z Um ⟨g4b, val s4b, e4b⟩) := ⟨hVm, hLm, hUm⟩
  clear hVm hLm hUm
  clear hl4a hl4b hb4a hb4b hB hq H3
  have ba := below1 w4 (.cells #[.bool g4a, .slice A4a m4a c4a, .int .i64 e4a, .bool g4b, .slice A4b m4b c4b, .int .i64 e4b] 47)
  replace HT : Hid (Tab (w4.alloc (.cells #[.bool g4a, .slice A4a m4a c4a, .int .i64 e4a, .bool g4b, .slice A4b m4b c4b, .int .i64 e4b] 47))) := HT.out.below ba
  replace HXl : Hid (Lim (w4.alloc (.cells #[.bool g4a, .slice A4a m4a c4a, .int .i64 e4a, .bool g4b, .slice A4b m4b c4b, .int .i64 e4b] 47)) (some ⟨w1.heap.size, 0, none⟩) 1 1 [a]) := HXl.out.below ba
  replace HYl : Hid (Lim (w4.alloc (.cells #[.bool g4a, .slice A4a m4a c4a, .int .i64 e4a, .bool g4b, .slice A4b m4b c4b, .int .i64 e4b] 47)) (some ⟨w1.heap.size + 1, 0, none⟩) 1 1 [b]) := HYl.out.below ba
  replace HX : Hid (Bd (w4.alloc (.cells #[.bool g4a, .slice A4a m4a c4a, .int .i64 e4a, .bool g4b, .slice A4b m4b c4b, .int .i64 e4b] 47)) (w1.heap.size + 1 + 1) 32 false (some ⟨w1.heap.size, 0, none⟩) 1 1 i) := HX.out.below ba
  replace HY : Hid (Bd (w4.alloc (.cells #[.bool g4a, .slice A4a m4a c4a, .int .i64 e4a, .bool g4b, .slice A4b m4b c4b, .int .i64 e4b] 47)) (w1.heap.size + 1 + 1 + 1) 32 false (some ⟨w1.heap.size + 1, 0, none⟩) 1 1 k) := HY.out.below ba
  replace HPl : Hid (Lim (w4.alloc (.cells #[.bool g4a, .slice A4a m4a c4a, .int .i64 e4a, .bool g4b, .slice A4b m4b c4b, .int .i64 e4b] 47)) Ap mp cp ps) := HPl.out.below ba
  replace HP : Hid (Bd (w4.alloc (.cells #[.bool g4a, .slice A4a m4a c4a, .int .i64 e4a, .bool g4b, .slice A4b m4b c4b, .int .i64 e4b] 47)) w2.heap.size 32 gp Ap mp cp Ep) := HP.out.below ba
  replace HLl : Hid (Lim (w4.alloc (.cells #[.bool g4a, .slice A4a m4a c4a, .int .i64 e4a, .bool g4b, .slice A4b m4b c4b, .int .i64 e4b] 47)) A3a m3a c3a s3a) := HLl.out.below ba
  replace HHl : Hid (Lim (w4.alloc (.cells #[.bool g4a, .slice A4a m4a c4a, .int .i64 e4a, .bool g4b, .slice A4b m4b c4b, .int .i64 e4b] 47)) A3b m3b c3b s3b) := HHl.out.below ba
  replace HIl : Hid (Ib (w4.alloc (.cells #[.bool g4a, .slice A4a m4a c4a, .int .i64 e4a, .bool g4b, .slice A4b m4b c4b, .int .i64 e4b] 47)) w3.heap.size g3a A3a m3a c3a e3a g3b A3b m3b c3b e3b) := HIl.out.below ba
  replace HLm : Hid (Lim (w4.alloc (.cells #[.bool g4a, .slice A4a m4a c4a, .int .i64 e4a, .bool g4b, .slice A4b m4b c4b, .int .i64 e4b] 47)) A4a m4a c4a s4a) := HLm.out.below ba
  replace HHm : Hid (Lim (w4.alloc (.cells #[.bool g4a, .slice A4a m4a c4a, .int .i64 e4a, .bool g4b, .slice A4b m4b c4b, .int .i64 e4b] 47)) A4b m4b c4b s4b) := HHm.out.below ba
  replace HS := Lib.hid (HS.out.trans (ba.mono HS.out.size))
  clear ba
  have HIm : Hid (Ib (w4.alloc (.cells #[.bool g4a, .slice A4a m4a c4a, .int .i64 e4a, .bool g4b, .slice A4b m4b c4b, .int .i64 e4b] 47)) w4.heap.size g4a A4a m4a c4a e4a g4b A4b m4b c4b e4b) := Ib.new w4 g4a A4a m4a c4a e4a g4b A4b m4b c4b e4b
  have HP_0 := HP.out.c0
  have HP_1 := HP.out.c1
  have HP_2 := HP.out.c2
  have H3 := log_lg gp Ap mp cp ps Ep (z : Int) (w4.alloc (.cells #[.bool g4a, .slice A4a m4a c4a, .int .i64 e4a, .bool g4b, .slice A4b m4b c4b, .int .i64 e4b] 47)) HPl.out (by omega) HT.out (by omega) (by omega)
  rw [HPv.out.2] at H3
  replace H3 := Lib.hid H3
  go_wp2_with fail
  refine H3.out.mono ?_
  rintro e w5 ⟨g5a, A5a, m5a, c5a, s5a, e5a, g5b, A5b, m5b, c5b, s5b, e5b, r5, rfl, hm5a, hm5b, hl5a, hl5b, hb5a, hb5b, hB, hq⟩
  clear HP_0 HP_1 HP_2
  replace HT : Hid (Tab w5) := HT.out.below hB
  replace HXl : Hid (Lim w5 (some ⟨w1.heap.size, 0, none⟩) 1 1 [a]) := HXl.out.below hB
  replace HYl : Hid (Lim w5 (some ⟨w1.heap.size + 1, 0, none⟩) 1 1 [b]) := HYl.out.below hB
  replace HX : Hid (Bd w5 (w1.heap.size + 1 + 1) 32 false (some ⟨w1.heap.size, 0, none⟩) 1 1 i) := HX.out.below hB
  replace HY : Hid (Bd w5 (w1.heap.size + 1 + 1 + 1) 32 false (some ⟨w1.heap.size + 1, 0, none⟩) 1 1 k) := HY.out.below hB
  replace HPl : Hid (Lim w5 Ap mp cp ps) := HPl.out.below hB
  replace HP : Hid (Bd w5 w2.heap.size 32 gp Ap mp cp Ep) := HP.out.below hB
  replace HLl : Hid (Lim w5 A3a m3a c3a s3a) := HLl.out.below hB
  replace HHl : Hid (Lim w5 A3b m3b c3b s3b) := HHl.out.below hB
  replace HIl : Hid (Ib w5 w3.heap.size g3a A3a m3a c3a e3a g3b A3b m3b c3b e3b) := HIl.out.below hB
  replace HLm : Hid (Lim w5 A4a m4a c4a s4a) := HLm.out.below hB
  replace HHm : Hid (Lim w5 A4b m4b c4b s4b) := HHm.out.below hB
  replace HIm : Hid (Ib w5 w4.heap.size g4a A4a m4a c4a e4a g4b A4b m4b c4b e4b) := HIm.out.below hB
  replace HS := Lib.hid (HS.out.trans (hB.mono HS.out.size))
  have HLp : Hid (Lim w5 A5a m5a c5a s5a) := hl5a
  have HHp : Hid (Lim w5 A5b m5b c5b s5b) := hl5b
  have HBp : Hid (Bare s5a ∧ Bare s5b) := ⟨hb5a, hb5b⟩
  obtain ⟨rfl, Lp, Up, hVp, hLp, hUp⟩ := logp_yes hq (show mk gp pV Ep = some dq by have h1 := HD.out.2.2.2.1; rw [h1]; exact HD.out.2.2.2.2.1) HD.out.2.1.2.2 (by omega) (by omega)
  rw [Int.toNat_natCast] at hVp hLp hUp
  have HQp : Hid (LogV dq z Lp Up ∧ Un z Lp ⟨g5a, val s5a, e5a⟩ ∧ Un z Up ⟨g5b, val s5b, e5b⟩) := ⟨hVp, hLp, hUp⟩
  clear hVp hLp hUp
  clear hl5a hl5b hb5a hb5b hB hq H3
  have ba := below1 w5 (.cells #[.bool g5a, .slice A5a m5a c5a, .int .i64 e5a, .bool g5b, .slice A5b m5b c5b, .int .i64 e5b] 47)
  replace HT : Hid (Tab (w5.alloc (.cells #[.bool g5a, .slice A5a m5a c5a, .int .i64 e5a, .bool g5b, .slice A5b m5b c5b, .int .i64 e5b] 47))) := HT.out.below ba
  replace HXl : Hid (Lim (w5.alloc (.cells #[.bool g5a, .slice A5a m5a c5a, .int .i64 e5a, .bool g5b, .slice A5b m5b c5b, .int .i64 e5b] 47)) (some ⟨w1.heap.size, 0, none⟩) 1 1 [a]) := HXl.out.below ba
  replace HYl : Hid (Lim (w5.alloc (.cells #[.bool g5a, .slice A5a m5a c5a, .int .i64 e5a, .bool g5b, .slice A5b m5b c5b, .int .i64 e5b] 47)) (some ⟨w1.heap.size + 1, 0, none⟩) 1 1 [b]) := HYl.out.below ba
  replace HX : Hid (Bd (w5.alloc (.cells #[.bool g5a, .slice A5a m5a c5a, .int .i64 e5a, .bool g5b, .slice A5b m5b c5b, .int .i64 e5b] 47)) (w1.heap.size + 1 + 1) 32 false (some ⟨w1.heap.size, 0, none⟩) 1 1 i) := HX.out.below ba
  replace HY : Hid (Bd (w5.alloc (.cells #[.bool g5a, .slice A5a m5a c5a, .int .i64 e5a, .bool g5b, .slice A5b m5b c5b, .int .i64 e5b] 47)) (w1.heap.size + 1 + 1 + 1) 32 false (some ⟨w1.heap.size + 1, 0, none⟩) 1 1 k) := HY.out.below ba
  replace HPl : Hid (Lim (w5.alloc (.cells #[.bool g5a, .slice A5a m5a c5a, .int .i64 e5a, .bool g5b, .slice A5b m5b c5b, .int .i64 e5b] 47)) Ap mp cp ps) := HPl.out.below ba
  replace HP : Hid (Bd (w5.alloc (.cells #[.bool g5a, .slice A5a m5a c5a, .int .i64 e5a, .bool g5b, .slice A5b m5b c5b, .int .i64 e5b] 47)) w2.heap.size 32 gp Ap mp cp Ep) := HP.out.below ba
  replace HLl : Hid (Lim (w5.alloc (.cells #[.bool g5a, .slice A5a m5a c5a, .int .i64 e5a, .bool g5b, .slice A5b m5b c5b, .int .i64 e5b] 47)) A3a m3a c3a s3a) := HLl.out.below ba
  replace HHl : Hid (Lim (w5.alloc (.cells #[.bool g5a, .slice A5a m5a c5a, .int .i64 e5a, .bool g5b, .slice A5b m5b c5b, .int .i64 e5b] 47)) A3b m3b c3b s3b) := HHl.out.below ba
  replace HIl : Hid (Ib (w5.alloc (.cells #[.bool g5a, .slice A5a m5a c5a, .int .i64 e5a, .bool g5b, .slice A5b m5b c5b, .int .i64 e5b] 47)) w3.heap.size g3a A3a m3a c3a e3a g3b A3b m3b c3b e3b) := HIl.out.below ba
  replace HLm : Hid (Lim (w5.alloc (.cells #[.bool g5a, .slice A5a m5a c5a, .int .i64 e5a, .bool g5b, .slice A5b m5b c5b, .int .i64 e5b] 47)) A4a m4a c4a s4a) := HLm.out.below ba
  replace HHm : Hid (Lim (w5.alloc (.cells #[.bool g5a, .slice A5a m5a c5a, .int .i64 e5a, .bool g5b, .slice A5b m5b c5b, .int .i64 e5b] 47)) A4b m4b c4b s4b) := HHm.out.below ba
  replace HIm : Hid (Ib (w5.alloc (.cells #[.bool g5a, .slice A5a m5a c5a, .int .i64 e5a, .bool g5b, .slice A5b m5b c5b, .int .i64 e5b] 47)) w4.heap.size g4a A4a m4a c4a e4a g4b A4b m4b c4b e4b) := HIm.out.below ba
  replace HLp : Hid (Lim (w5.alloc (.cells #[.bool g5a, .slice A5a m5a c5a, .int .i64 e5a, .bool g5b, .slice A5b m5b c5b, .int .i64 e5b] 47)) A5a m5a c5a s5a) := HLp.out.below ba
  replace HHp : Hid (Lim (w5.alloc (.cells #[.bool g5a, .slice A5a m5a c5a, .int .i64 e5a, .bool g5b, .slice A5b m5b c5b, .int .i64 e5b] 47)) A5b m5b c5b s5b) := HHp.out.below ba
  replace HS := Lib.hid (HS.out.trans (ba.mono HS.out.size))
  clear ba
  have HIp : Hid (Ib (w5.alloc (.cells #[.bool g5a, .slice A5a m5a c5a, .int .i64 e5a, .bool g5b, .slice A5b m5b c5b, .int .i64 e5b] 47)) w5.heap.size g5a A5a m5a c5a e5a g5b A5b m5b c5b e5b) := Ib.new w5 g5a A5a m5a c5a e5a g5b A5b m5b c5b e5b
  have hr := rules_sum HD.out.2.1.1 HD.out.2.1.2.1 HD.out.2.1.2.2 HQl.out.1 HQm.out.1 HQp.out.1 HD.out.2.2.1.2.2
  have HRs : Hid (Ll + Lm ≤ Up ∧ Lp ≤ Ul + Um) := hr
  clear hr
  have hfl := log_far HD.out.2.1.1 (by omega) (by omega) HQl.out.1
  have hfm := log_far HD.out.2.1.2.1 (by omega) (by omega) HQm.out.1
  have hs1 := far_sum hfl.1 hfm.1
  have hs2 := far_sum hfl.2 hfm.2
  obtain ⟨dlo, hlo1, hlo2⟩ := un_add HQl.out.2.1 HQm.out.2.1 (by omega) hs1.1 hs1.2.1
  obtain ⟨dhi, hhi1, hhi2⟩ := un_add HQl.out.2.2 HQm.out.2.2 (by omega) hs2.1 hs2.2.1
  dsimp only at hlo1 hhi1
  have HLo : Hid (_ ∧ Un z (Ll + Lm) dlo) := ⟨hlo1, hlo2⟩
  have HHi : Hid (_ ∧ Un z (Ul + Um) dhi) := ⟨hhi1, hhi2⟩
  clear hfl hfm hs1 hs2 hlo1 hlo2 hhi1 hhi2
  have HIl_0 := HIl.out.x0
  have HIl_1 := HIl.out.x1
  have HIl_2 := HIl.out.x2
  have HIl_3 := HIl.out.x3
  have HIl_4 := HIl.out.x4
  have HIl_5 := HIl.out.x5
  have HIm_0 := HIm.out.x0
  have HIm_1 := HIm.out.x1
  have HIm_2 := HIm.out.x2
  have HIm_3 := HIm.out.x3
  have HIm_4 := HIm.out.x4
  have HIm_5 := HIm.out.x5
  have H4 := Lib.hid (dadd_any (some dlo) g3a A3a m3a c3a s3a e3a g4a A4a m4a c4a s4a e4a (w5.alloc (.cells #[.bool g5a, .slice A5a m5a c5a, .int .i64 e5a, .bool g5b, .slice A5b m5b c5b, .int .i64 e5b] 47)) HLl.out HLm.out (by omega) (by omega) HT.out HLo.out.1)
  go_wp2_with fail
  refine H4.out.mono ?_
  rintro e w6 ⟨g6, A6, m6, c6, s6, e6, r6, rfl, hm6, hl6, hb6, ⟨rfl, hg6, hV6, hE6⟩, hB⟩
  clear HIl_0 HIl_1 HIl_2 HIl_3 HIl_4 HIl_5 HIm_0 HIm_1 HIm_2 HIm_3 HIm_4 HIm_5
  replace HT : Hid (Tab w6) := HT.out.below hB
  replace HXl : Hid (Lim w6 (some ⟨w1.heap.size, 0, none⟩) 1 1 [a]) := HXl.out.below hB
  replace HYl : Hid (Lim w6 (some ⟨w1.heap.size + 1, 0, none⟩) 1 1 [b]) := HYl.out.below hB
  replace HX : Hid (Bd w6 (w1.heap.size + 1 + 1) 32 false (some ⟨w1.heap.size, 0, none⟩) 1 1 i) := HX.out.below hB
  replace HY : Hid (Bd w6 (w1.heap.size + 1 + 1 + 1) 32 false (some ⟨w1.heap.size + 1, 0, none⟩) 1 1 k) := HY.out.below hB
  replace HPl : Hid (Lim w6 Ap mp cp ps) := HPl.out.below hB
  replace HP : Hid (Bd w6 w2.heap.size 32 gp Ap mp cp Ep) := HP.out.below hB
  replace HLl : Hid (Lim w6 A3a m3a c3a s3a) := HLl.out.below hB
  replace HHl : Hid (Lim w6 A3b m3b c3b s3b) := HHl.out.below hB
  replace HIl : Hid (Ib w6 w3.heap.size g3a A3a m3a c3a e3a g3b A3b m3b c3b e3b) := HIl.out.below hB
  replace HLm : Hid (Lim w6 A4a m4a c4a s4a) := HLm.out.below hB
  replace HHm : Hid (Lim w6 A4b m4b c4b s4b) := HHm.out.below hB
  replace HIm : Hid (Ib w6 w4.heap.size g4a A4a m4a c4a e4a g4b A4b m4b c4b e4b) := HIm.out.below hB
  replace HLp : Hid (Lim w6 A5a m5a c5a s5a) := HLp.out.below hB
  replace HHp : Hid (Lim w6 A5b m5b c5b s5b) := HHp.out.below hB
  replace HIp : Hid (Ib w6 w5.heap.size g5a A5a m5a c5a e5a g5b A5b m5b c5b e5b) := HIp.out.below hB
  replace HS := Lib.hid (HS.out.trans (hB.mono HS.out.size))
  have Hlol : Hid (Lim w6 A6 m6 c6 s6) := hl6
  have Hloq : Hid (dlo = ⟨g6, val s6, e6⟩) := by show _ = _; rw [hg6, hV6, hE6]
  clear hl6 hb6 hg6 hV6 hE6 hB H4
  have ba := below1 w6 (.cells #[.bool g6, .slice A6 m6 c6, .int .i64 e6] 32)
  replace HT : Hid (Tab (w6.alloc (.cells #[.bool g6, .slice A6 m6 c6, .int .i64 e6] 32))) := HT.out.below ba
  replace HXl : Hid (Lim (w6.alloc (.cells #[.bool g6, .slice A6 m6 c6, .int .i64 e6] 32)) (some ⟨w1.heap.size, 0, none⟩) 1 1 [a]) := HXl.out.below ba
  replace HYl : Hid (Lim (w6.alloc (.cells #[.bool g6, .slice A6 m6 c6, .int .i64 e6] 32)) (some ⟨w1.heap.size + 1, 0, none⟩) 1 1 [b]) := HYl.out.below ba
  replace HX : Hid (Bd (w6.alloc (.cells #[.bool g6, .slice A6 m6 c6, .int .i64 e6] 32)) (w1.heap.size + 1 + 1) 32 false (some ⟨w1.heap.size, 0, none⟩) 1 1 i) := HX.out.below ba
  replace HY : Hid (Bd (w6.alloc (.cells #[.bool g6, .slice A6 m6 c6, .int .i64 e6] 32)) (w1.heap.size + 1 + 1 + 1) 32 false (some ⟨w1.heap.size + 1, 0, none⟩) 1 1 k) := HY.out.below ba
  replace HPl : Hid (Lim (w6.alloc (.cells #[.bool g6, .slice A6 m6 c6, .int .i64 e6] 32)) Ap mp cp ps) := HPl.out.below ba
  replace HP : Hid (Bd (w6.alloc (.cells #[.bool g6, .slice A6 m6 c6, .int .i64 e6] 32)) w2.heap.size 32 gp Ap mp cp Ep) := HP.out.below ba
  replace HLl : Hid (Lim (w6.alloc (.cells #[.bool g6, .slice A6 m6 c6, .int .i64 e6] 32)) A3a m3a c3a s3a) := HLl.out.below ba
  replace HHl : Hid (Lim (w6.alloc (.cells #[.bool g6, .slice A6 m6 c6, .int .i64 e6] 32)) A3b m3b c3b s3b) := HHl.out.below ba
  replace HIl : Hid (Ib (w6.alloc (.cells #[.bool g6, .slice A6 m6 c6, .int .i64 e6] 32)) w3.heap.size g3a A3a m3a c3a e3a g3b A3b m3b c3b e3b) := HIl.out.below ba
  replace HLm : Hid (Lim (w6.alloc (.cells #[.bool g6, .slice A6 m6 c6, .int .i64 e6] 32)) A4a m4a c4a s4a) := HLm.out.below ba
  replace HHm : Hid (Lim (w6.alloc (.cells #[.bool g6, .slice A6 m6 c6, .int .i64 e6] 32)) A4b m4b c4b s4b) := HHm.out.below ba
  replace HIm : Hid (Ib (w6.alloc (.cells #[.bool g6, .slice A6 m6 c6, .int .i64 e6] 32)) w4.heap.size g4a A4a m4a c4a e4a g4b A4b m4b c4b e4b) := HIm.out.below ba
  replace HLp : Hid (Lim (w6.alloc (.cells #[.bool g6, .slice A6 m6 c6, .int .i64 e6] 32)) A5a m5a c5a s5a) := HLp.out.below ba
  replace HHp : Hid (Lim (w6.alloc (.cells #[.bool g6, .slice A6 m6 c6, .int .i64 e6] 32)) A5b m5b c5b s5b) := HHp.out.below ba
  replace HIp : Hid (Ib (w6.alloc (.cells #[.bool g6, .slice A6 m6 c6, .int .i64 e6] 32)) w5.heap.size g5a A5a m5a c5a e5a g5b A5b m5b c5b e5b) := HIp.out.below ba
  replace Hlol : Hid (Lim (w6.alloc (.cells #[.bool g6, .slice A6 m6 c6, .int .i64 e6] 32)) A6 m6 c6 s6) := Hlol.out.below ba
  replace HS := Lib.hid (HS.out.trans (ba.mono HS.out.size))
  clear ba
  have Hlo : Hid (Bd (w6.alloc (.cells #[.bool g6, .slice A6 m6 c6, .int .i64 e6] 32)) w6.heap.size 32 g6 A6 m6 c6 e6) := Bd.new w6 32 g6 A6 m6 c6 e6
  have HIl_0 := HIl.out.x0
  have HIl_1 := HIl.out.x1
  have HIl_2 := HIl.out.x2
  have HIl_3 := HIl.out.x3
  have HIl_4 := HIl.out.x4
  have HIl_5 := HIl.out.x5
  have HIm_0 := HIm.out.x0
  have HIm_1 := HIm.out.x1
  have HIm_2 := HIm.out.x2
  have HIm_3 := HIm.out.x3
  have HIm_4 := HIm.out.x4
  have HIm_5 := HIm.out.x5
  have H4 := Lib.hid (dadd_any (some dhi) g3b A3b m3b c3b s3b e3b g4b A4b m4b c4b s4b e4b (w6.alloc (.cells #[.bool g6, .slice A6 m6 c6, .int .i64 e6] 32)) HHl.out HHm.out (by omega) (by omega) HT.out HHi.out.1)
  go_wp2_with fail
  refine H4.out.mono ?_
  rintro e w7 ⟨g7, A7, m7, c7, s7, e7, r7, rfl, hm7, hl7, hb7, ⟨rfl, hg7, hV7, hE7⟩, hB⟩
  clear HIl_0 HIl_1 HIl_2 HIl_3 HIl_4 HIl_5 HIm_0 HIm_1 HIm_2 HIm_3 HIm_4 HIm_5
  replace HT : Hid (Tab w7) := HT.out.below hB
  replace HXl : Hid (Lim w7 (some ⟨w1.heap.size, 0, none⟩) 1 1 [a]) := HXl.out.below hB
  replace HYl : Hid (Lim w7 (some ⟨w1.heap.size + 1, 0, none⟩) 1 1 [b]) := HYl.out.below hB
  replace HX : Hid (Bd w7 (w1.heap.size + 1 + 1) 32 false (some ⟨w1.heap.size, 0, none⟩) 1 1 i) := HX.out.below hB
  replace HY : Hid (Bd w7 (w1.heap.size + 1 + 1 + 1) 32 false (some ⟨w1.heap.size + 1, 0, none⟩) 1 1 k) := HY.out.below hB
  replace HPl : Hid (Lim w7 Ap mp cp ps) := HPl.out.below hB
  replace HP : Hid (Bd w7 w2.heap.size 32 gp Ap mp cp Ep) := HP.out.below hB
  replace HLl : Hid (Lim w7 A3a m3a c3a s3a) := HLl.out.below hB
  replace HHl : Hid (Lim w7 A3b m3b c3b s3b) := HHl.out.below hB
  replace HIl : Hid (Ib w7 w3.heap.size g3a A3a m3a c3a e3a g3b A3b m3b c3b e3b) := HIl.out.below hB
  replace HLm : Hid (Lim w7 A4a m4a c4a s4a) := HLm.out.below hB
  replace HHm : Hid (Lim w7 A4b m4b c4b s4b) := HHm.out.below hB
  replace HIm : Hid (Ib w7 w4.heap.size g4a A4a m4a c4a e4a g4b A4b m4b c4b e4b) := HIm.out.below hB
  replace HLp : Hid (Lim w7 A5a m5a c5a s5a) := HLp.out.below hB
  replace HHp : Hid (Lim w7 A5b m5b c5b s5b) := HHp.out.below hB
  replace HIp : Hid (Ib w7 w5.heap.size g5a A5a m5a c5a e5a g5b A5b m5b c5b e5b) := HIp.out.below hB
  replace Hlol : Hid (Lim w7 A6 m6 c6 s6) := Hlol.out.below hB
  replace Hlo : Hid (Bd w7 w6.heap.size 32 g6 A6 m6 c6 e6) := Hlo.out.below hB
  replace HS := Lib.hid (HS.out.trans (hB.mono HS.out.size))
  have Hhil : Hid (Lim w7 A7 m7 c7 s7) := hl7
  have Hhiq : Hid (dhi = ⟨g7, val s7, e7⟩) := by show _ = _; rw [hg7, hV7, hE7]
  clear hl7 hb7 hg7 hV7 hE7 hB H4
  have ba := below1 w7 (.cells #[.bool g7, .slice A7 m7 c7, .int .i64 e7] 32)
  replace HT : Hid (Tab (w7.alloc (.cells #[.bool g7, .slice A7 m7 c7, .int .i64 e7] 32))) := HT.out.below ba
  replace HXl : Hid (Lim (w7.alloc (.cells #[.bool g7, .slice A7 m7 c7, .int .i64 e7] 32)) (some ⟨w1.heap.size, 0, none⟩) 1 1 [a]) := HXl.out.below ba
  replace HYl : Hid (Lim (w7.alloc (.cells #[.bool g7, .slice A7 m7 c7, .int .i64 e7] 32)) (some ⟨w1.heap.size + 1, 0, none⟩) 1 1 [b]) := HYl.out.below ba
  replace HX : Hid (Bd (w7.alloc (.cells #[.bool g7, .slice A7 m7 c7, .int .i64 e7] 32)) (w1.heap.size + 1 + 1) 32 false (some ⟨w1.heap.size, 0, none⟩) 1 1 i) := HX.out.below ba
  replace HY : Hid (Bd (w7.alloc (.cells #[.bool g7, .slice A7 m7 c7, .int .i64 e7] 32)) (w1.heap.size + 1 + 1 + 1) 32 false (some ⟨w1.heap.size + 1, 0, none⟩) 1 1 k) := HY.out.below ba
  replace HPl : Hid (Lim (w7.alloc (.cells #[.bool g7, .slice A7 m7 c7, .int .i64 e7] 32)) Ap mp cp ps) := HPl.out.below ba
  replace HP : Hid (Bd (w7.alloc (.cells #[.bool g7, .slice A7 m7 c7, .int .i64 e7] 32)) w2.heap.size 32 gp Ap mp cp Ep) := HP.out.below ba
  replace HLl : Hid (Lim (w7.alloc (.cells #[.bool g7, .slice A7 m7 c7, .int .i64 e7] 32)) A3a m3a c3a s3a) := HLl.out.below ba
  replace HHl : Hid (Lim (w7.alloc (.cells #[.bool g7, .slice A7 m7 c7, .int .i64 e7] 32)) A3b m3b c3b s3b) := HHl.out.below ba
  replace HIl : Hid (Ib (w7.alloc (.cells #[.bool g7, .slice A7 m7 c7, .int .i64 e7] 32)) w3.heap.size g3a A3a m3a c3a e3a g3b A3b m3b c3b e3b) := HIl.out.below ba
  replace HLm : Hid (Lim (w7.alloc (.cells #[.bool g7, .slice A7 m7 c7, .int .i64 e7] 32)) A4a m4a c4a s4a) := HLm.out.below ba
  replace HHm : Hid (Lim (w7.alloc (.cells #[.bool g7, .slice A7 m7 c7, .int .i64 e7] 32)) A4b m4b c4b s4b) := HHm.out.below ba
  replace HIm : Hid (Ib (w7.alloc (.cells #[.bool g7, .slice A7 m7 c7, .int .i64 e7] 32)) w4.heap.size g4a A4a m4a c4a e4a g4b A4b m4b c4b e4b) := HIm.out.below ba
  replace HLp : Hid (Lim (w7.alloc (.cells #[.bool g7, .slice A7 m7 c7, .int .i64 e7] 32)) A5a m5a c5a s5a) := HLp.out.below ba
  replace HHp : Hid (Lim (w7.alloc (.cells #[.bool g7, .slice A7 m7 c7, .int .i64 e7] 32)) A5b m5b c5b s5b) := HHp.out.below ba
  replace HIp : Hid (Ib (w7.alloc (.cells #[.bool g7, .slice A7 m7 c7, .int .i64 e7] 32)) w5.heap.size g5a A5a m5a c5a e5a g5b A5b m5b c5b e5b) := HIp.out.below ba
  replace Hlol : Hid (Lim (w7.alloc (.cells #[.bool g7, .slice A7 m7 c7, .int .i64 e7] 32)) A6 m6 c6 s6) := Hlol.out.below ba
  replace Hlo : Hid (Bd (w7.alloc (.cells #[.bool g7, .slice A7 m7 c7, .int .i64 e7] 32)) w6.heap.size 32 g6 A6 m6 c6 e6) := Hlo.out.below ba
  replace Hhil : Hid (Lim (w7.alloc (.cells #[.bool g7, .slice A7 m7 c7, .int .i64 e7] 32)) A7 m7 c7 s7) := Hhil.out.below ba
  replace HS := Lib.hid (HS.out.trans (ba.mono HS.out.size))
  clear ba
  have Hhi : Hid (Bd (w7.alloc (.cells #[.bool g7, .slice A7 m7 c7, .int .i64 e7] 32)) w7.heap.size 32 g7 A7 m7 c7 e7) := Bd.new w7 32 g7 A7 m7 c7 e7
  have Hlo_0 := Hlo.out.c0
  have Hlo_1 := Hlo.out.c1
  have Hlo_2 := Hlo.out.c2
  have HIp_0 := HIp.out.x0
  have HIp_1 := HIp.out.x1
  have HIp_2 := HIp.out.x2
  have HIp_3 := HIp.out.x3
  have HIp_4 := HIp.out.x4
  have HIp_5 := HIp.out.x5
  obtain ⟨va, hva⟩ : ∃ v, cmpI (Ll + Lm) (Up) = v := ⟨_, rfl⟩
  have cva : decide ((0 : Int) < va) = false := by rw [← hva]; exact decide_eq_false (by have := cmpI_down (show Ll + Lm ≤ Up by exact HRs.out.1); omega)
  have H5 := Lib.hid (dcmp_l va g6 A6 m6 c6 s6 e6 g5b A5b m5b c5b s5b e5b (w7.alloc (.cells #[.bool g7, .slice A7 m7 c7, .int .i64 e7] 32)) Hlol.out HHp.out (by omega) (by omega) HT.out (by show _ = _; rw [← hva]; have h := HLo.out.2; rw [Hloq.out] at h; exact un_cmp h HQp.out.2.2))
  clear hva
  go_wp2_with fail
  refine H5.out.mono ?_
  rintro e w8 ⟨rfl, hB⟩
  clear Hlo_0 Hlo_1 Hlo_2 HIp_0 HIp_1 HIp_2 HIp_3 HIp_4 HIp_5
  replace HT : Hid (Tab w8) := HT.out.below hB
  replace HXl : Hid (Lim w8 (some ⟨w1.heap.size, 0, none⟩) 1 1 [a]) := HXl.out.below hB
  replace HYl : Hid (Lim w8 (some ⟨w1.heap.size + 1, 0, none⟩) 1 1 [b]) := HYl.out.below hB
  replace HX : Hid (Bd w8 (w1.heap.size + 1 + 1) 32 false (some ⟨w1.heap.size, 0, none⟩) 1 1 i) := HX.out.below hB
  replace HY : Hid (Bd w8 (w1.heap.size + 1 + 1 + 1) 32 false (some ⟨w1.heap.size + 1, 0, none⟩) 1 1 k) := HY.out.below hB
  replace HPl : Hid (Lim w8 Ap mp cp ps) := HPl.out.below hB
  replace HP : Hid (Bd w8 w2.heap.size 32 gp Ap mp cp Ep) := HP.out.below hB
  replace HLl : Hid (Lim w8 A3a m3a c3a s3a) := HLl.out.below hB
  replace HHl : Hid (Lim w8 A3b m3b c3b s3b) := HHl.out.below hB
  replace HIl : Hid (Ib w8 w3.heap.size g3a A3a m3a c3a e3a g3b A3b m3b c3b e3b) := HIl.out.below hB
  replace HLm : Hid (Lim w8 A4a m4a c4a s4a) := HLm.out.below hB
  replace HHm : Hid (Lim w8 A4b m4b c4b s4b) := HHm.out.below hB
  replace HIm : Hid (Ib w8 w4.heap.size g4a A4a m4a c4a e4a g4b A4b m4b c4b e4b) := HIm.out.below hB
  replace HLp : Hid (Lim w8 A5a m5a c5a s5a) := HLp.out.below hB
  replace HHp : Hid (Lim w8 A5b m5b c5b s5b) := HHp.out.below hB
  replace HIp : Hid (Ib w8 w5.heap.size g5a A5a m5a c5a e5a g5b A5b m5b c5b e5b) := HIp.out.below hB
  replace Hlol : Hid (Lim w8 A6 m6 c6 s6) := Hlol.out.below hB
  replace Hlo : Hid (Bd w8 w6.heap.size 32 g6 A6 m6 c6 e6) := Hlo.out.below hB
  replace Hhil : Hid (Lim w8 A7 m7 c7 s7) := Hhil.out.below hB
  replace Hhi : Hid (Bd w8 w7.heap.size 32 g7 A7 m7 c7 e7) := Hhi.out.below hB
  replace HS := Lib.hid (HS.out.trans (hB.mono HS.out.size))
  clear hB H5
  have HIp_0 := HIp.out.x0
  have HIp_1 := HIp.out.x1
  have HIp_2 := HIp.out.x2
  have HIp_3 := HIp.out.x3
  have HIp_4 := HIp.out.x4
  have HIp_5 := HIp.out.x5
  have Hhi_0 := Hhi.out.c0
  have Hhi_1 := Hhi.out.c1
  have Hhi_2 := Hhi.out.c2
  obtain ⟨vb, hvb⟩ : ∃ v, cmpI (Lp) (Ul + Um) = v := ⟨_, rfl⟩
  have cvb : decide ((0 : Int) < vb) = false := by rw [← hvb]; exact decide_eq_false (by have := cmpI_down (show Lp ≤ Ul + Um by exact HRs.out.2); omega)
  have H5 := Lib.hid (dcmp_l vb g5a A5a m5a c5a s5a e5a g7 A7 m7 c7 s7 e7 w8 HLp.out Hhil.out (by omega) (by omega) HT.out (by show _ = _; rw [← hvb]; have h := HHi.out.2; rw [Hhiq.out] at h; exact un_cmp HQp.out.2.1 h))
  clear hvb
  go_wp2_with fail
  refine H5.out.mono ?_
  rintro e w9 ⟨rfl, hB⟩
  clear HIp_0 HIp_1 HIp_2 HIp_3 HIp_4 HIp_5 Hhi_0 Hhi_1 Hhi_2
  replace HT : Hid (Tab w9) := HT.out.below hB
  replace HXl : Hid (Lim w9 (some ⟨w1.heap.size, 0, none⟩) 1 1 [a]) := HXl.out.below hB
  replace HYl : Hid (Lim w9 (some ⟨w1.heap.size + 1, 0, none⟩) 1 1 [b]) := HYl.out.below hB
  replace HX : Hid (Bd w9 (w1.heap.size + 1 + 1) 32 false (some ⟨w1.heap.size, 0, none⟩) 1 1 i) := HX.out.below hB
  replace HY : Hid (Bd w9 (w1.heap.size + 1 + 1 + 1) 32 false (some ⟨w1.heap.size + 1, 0, none⟩) 1 1 k) := HY.out.below hB
  replace HPl : Hid (Lim w9 Ap mp cp ps) := HPl.out.below hB
  replace HP : Hid (Bd w9 w2.heap.size 32 gp Ap mp cp Ep) := HP.out.below hB
  replace HLl : Hid (Lim w9 A3a m3a c3a s3a) := HLl.out.below hB
  replace HHl : Hid (Lim w9 A3b m3b c3b s3b) := HHl.out.below hB
  replace HIl : Hid (Ib w9 w3.heap.size g3a A3a m3a c3a e3a g3b A3b m3b c3b e3b) := HIl.out.below hB
  replace HLm : Hid (Lim w9 A4a m4a c4a s4a) := HLm.out.below hB
  replace HHm : Hid (Lim w9 A4b m4b c4b s4b) := HHm.out.below hB
  replace HIm : Hid (Ib w9 w4.heap.size g4a A4a m4a c4a e4a g4b A4b m4b c4b e4b) := HIm.out.below hB
  replace HLp : Hid (Lim w9 A5a m5a c5a s5a) := HLp.out.below hB
  replace HHp : Hid (Lim w9 A5b m5b c5b s5b) := HHp.out.below hB
  replace HIp : Hid (Ib w9 w5.heap.size g5a A5a m5a c5a e5a g5b A5b m5b c5b e5b) := HIp.out.below hB
  replace Hlol : Hid (Lim w9 A6 m6 c6 s6) := Hlol.out.below hB
  replace Hlo : Hid (Bd w9 w6.heap.size 32 g6 A6 m6 c6 e6) := Hlo.out.below hB
  replace Hhil : Hid (Lim w9 A7 m7 c7 s7) := Hhil.out.below hB
  replace Hhi : Hid (Bd w9 w7.heap.size 32 g7 A7 m7 c7 e7) := Hhi.out.below hB
  replace HS := Lib.hid (HS.out.trans (hB.mono HS.out.size))
  clear hB H5
  clear Hlo Hhi Hlol Hhil HIp HLp HHp
  clear Hloq Hhiq HLo HHi HRs HQp HBp
  have HX_0 := HX.out.c0
  have HX_1 := HX.out.c1
  have HX_2 := HX.out.c2
  have HY_0 := HY.out.c0
  have HY_1 := HY.out.c1
  have HY_2 := HY.out.c2
  have H6 := Lib.hid (dcmp_l cc false (some ⟨w1.heap.size, 0, none⟩) 1 1 [a] i false (some ⟨w1.heap.size + 1, 0, none⟩) 1 1 [b] k w9 HXl.out HYl.out (by decide) (by decide) HT.out (by show _ = _; rw [lval_one, lval_one]; exact HC.out.1))
  go_wp2_with fail
  refine H6.out.mono ?_
  rintro e w10 ⟨rfl, hB⟩
  clear HX_0 HX_1 HX_2 HY_0 HY_1 HY_2
  replace HT : Hid (Tab w10) := HT.out.below hB
  replace HXl : Hid (Lim w10 (some ⟨w1.heap.size, 0, none⟩) 1 1 [a]) := HXl.out.below hB
  replace HYl : Hid (Lim w10 (some ⟨w1.heap.size + 1, 0, none⟩) 1 1 [b]) := HYl.out.below hB
  replace HX : Hid (Bd w10 (w1.heap.size + 1 + 1) 32 false (some ⟨w1.heap.size, 0, none⟩) 1 1 i) := HX.out.below hB
  replace HY : Hid (Bd w10 (w1.heap.size + 1 + 1 + 1) 32 false (some ⟨w1.heap.size + 1, 0, none⟩) 1 1 k) := HY.out.below hB
  replace HPl : Hid (Lim w10 Ap mp cp ps) := HPl.out.below hB
  replace HP : Hid (Bd w10 w2.heap.size 32 gp Ap mp cp Ep) := HP.out.below hB
  replace HLl : Hid (Lim w10 A3a m3a c3a s3a) := HLl.out.below hB
  replace HHl : Hid (Lim w10 A3b m3b c3b s3b) := HHl.out.below hB
  replace HIl : Hid (Ib w10 w3.heap.size g3a A3a m3a c3a e3a g3b A3b m3b c3b e3b) := HIl.out.below hB
  replace HLm : Hid (Lim w10 A4a m4a c4a s4a) := HLm.out.below hB
  replace HHm : Hid (Lim w10 A4b m4b c4b s4b) := HHm.out.below hB
  replace HIm : Hid (Ib w10 w4.heap.size g4a A4a m4a c4a e4a g4b A4b m4b c4b e4b) := HIm.out.below hB
  replace HS := Lib.hid (HS.out.trans (hB.mono HS.out.size))
  clear hB H6
  have d1 : decide (cc ≤ (0 : Int)) = true := decide_eq_true (by have := HC.out.2; omega)
  have d2 : decide ((0 : Int) ≤ cc) = false := decide_eq_false (by have := HC.out.2; omega)
  have HIl_0 := HIl.out.x0
  have HIl_1 := HIl.out.x1
  have HIl_2 := HIl.out.x2
  have HIl_3 := HIl.out.x3
  have HIl_4 := HIl.out.x4
  have HIl_5 := HIl.out.x5
  have HIm_0 := HIm.out.x0
  have HIm_1 := HIm.out.x1
  have HIm_2 := HIm.out.x2
  have HIm_3 := HIm.out.x3
  have HIm_4 := HIm.out.x4
  have HIm_5 := HIm.out.x5
  obtain ⟨vc, hvc⟩ : ∃ v, cmpI (Ll) (Um) = v := ⟨_, rfl⟩
  have cvc : decide ((0 : Int) < vc) = false := by rw [← hvc]; exact decide_eq_false (by have := cmpI_down (show Ll ≤ Um by exact rules_ord HD.out.2.1.1 HD.out.2.1.2.1 HQl.out.1 HQm.out.1 (by rw [HD.out.2.2.1.1, HD.out.2.2.1.2.1]; exact rat_of_cmp (by rw [HC.out.1]; have := HC.out.2; omega))); omega)
  have H5 := Lib.hid (dcmp_l vc g3a A3a m3a c3a s3a e3a g4b A4b m4b c4b s4b e4b w10 HLl.out HHm.out (by omega) (by omega) HT.out (by show _ = _; rw [← hvc]; exact un_cmp HQl.out.2.1 HQm.out.2.2))
  clear hvc
  go_wp2_with fail
  refine H5.out.mono ?_
  rintro e w11 ⟨rfl, hB⟩
  clear HIl_0 HIl_1 HIl_2 HIl_3 HIl_4 HIl_5 HIm_0 HIm_1 HIm_2 HIm_3 HIm_4 HIm_5
  replace HT : Hid (Tab w11) := HT.out.below hB
  replace HXl : Hid (Lim w11 (some ⟨w1.heap.size, 0, none⟩) 1 1 [a]) := HXl.out.below hB
  replace HYl : Hid (Lim w11 (some ⟨w1.heap.size + 1, 0, none⟩) 1 1 [b]) := HYl.out.below hB
  replace HX : Hid (Bd w11 (w1.heap.size + 1 + 1) 32 false (some ⟨w1.heap.size, 0, none⟩) 1 1 i) := HX.out.below hB
  replace HY : Hid (Bd w11 (w1.heap.size + 1 + 1 + 1) 32 false (some ⟨w1.heap.size + 1, 0, none⟩) 1 1 k) := HY.out.below hB
  replace HPl : Hid (Lim w11 Ap mp cp ps) := HPl.out.below hB
  replace HP : Hid (Bd w11 w2.heap.size 32 gp Ap mp cp Ep) := HP.out.below hB
  replace HLl : Hid (Lim w11 A3a m3a c3a s3a) := HLl.out.below hB
  replace HHl : Hid (Lim w11 A3b m3b c3b s3b) := HHl.out.below hB
  replace HIl : Hid (Ib w11 w3.heap.size g3a A3a m3a c3a e3a g3b A3b m3b c3b e3b) := HIl.out.below hB
  replace HLm : Hid (Lim w11 A4a m4a c4a s4a) := HLm.out.below hB
  replace HHm : Hid (Lim w11 A4b m4b c4b s4b) := HHm.out.below hB
  replace HIm : Hid (Ib w11 w4.heap.size g4a A4a m4a c4a e4a g4b A4b m4b c4b e4b) := HIm.out.below hB
  replace HS := Lib.hid (HS.out.trans (hB.mono HS.out.size))
  clear hB H5
  clear HY HYl HIm HLm HHm
  clear HC HQm HBm
  have bd := below_drew w11
  replace HT : Hid (Tab w11.drew) := HT.out.below bd
  replace HXl : Hid (Lim w11.drew (some ⟨w1.heap.size, 0, none⟩) 1 1 [a]) := HXl.out.below bd
  replace HX : Hid (Bd w11.drew (w1.heap.size + 1 + 1) 32 false (some ⟨w1.heap.size, 0, none⟩) 1 1 i) := HX.out.below bd
  replace HPl : Hid (Lim w11.drew Ap mp cp ps) := HPl.out.below bd
  replace HP : Hid (Bd w11.drew w2.heap.size 32 gp Ap mp cp Ep) := HP.out.below bd
  replace HLl : Hid (Lim w11.drew A3a m3a c3a s3a) := HLl.out.below bd
  replace HHl : Hid (Lim w11.drew A3b m3b c3b s3b) := HHl.out.below bd
  replace HIl : Hid (Ib w11.drew w3.heap.size g3a A3a m3a c3a e3a g3b A3b m3b c3b e3b) := HIl.out.below bd
  replace HS := Lib.hid (HS.out.trans (bd.mono HS.out.size))
  clear bd
  have Ha : Hid (Calls Tryd.prog 21 #[.int .i64 1] w11.drew (Tells1 w11.drew false 1 1 0)) := dof_nat 1 (by decide) false 1 0 w11.drew HT.out rfl
  have K0 := Lib.hid (And.intro HX.out.c0 (And.intro HX.out.c1 HX.out.c2))
  go_wp2_with fail
  go_region_held3 (fun w' => w'.cell? ⟨w1.heap.size + 1 + 1, 0, none⟩ = some (.bool false) ∧ w'.cell? ⟨w1.heap.size + 1 + 1, 1, none⟩ = some (.slice (some ⟨w1.heap.size, 0, none⟩) 1 1) ∧ w'.cell? ⟨w1.heap.size + 1 + 1, 2, none⟩ = some (.int .i64 i)) (first | (with_reducible exact K0.out) | (with_reducible exact K1.out) | (with_reducible exact K2.out)) (first | (go_at_call 21; (with_reducible refine Ha.out.mono ?_); rintro e w12 ⟨A1o, m1o, c1o, s1o, rfl, hm1o, hl1o, hb1o, hv1o, hB2⟩; have k1 := HX.out.below hB2; have K1 := Lib.hid (And.intro k1.c0 (And.intro k1.c1 k1.c2)); have hc1 := dcmp_l oo false (some ⟨w1.heap.size, 0, none⟩) 1 1 [a] i false A1o m1o c1o s1o 0 w12 (HXl.out.below hB2) hl1o (by decide) (by omega) (HT.out.below hB2) (by show _ = _; rw [lval_one, hv1o]; exact HO.out); have Hc1 := Lib.hid hc1; have HB2 := Lib.hid hB2; clear hl1o hb1o hv1o hB2 hc1 k1) | (go_at_call 20; (with_reducible refine Hc1.out.mono ?_); rintro e w13 ⟨rfl, hB3⟩; have k2 := (HX.out.below HB2.out).below hB3; have K2 := Lib.hid (And.intro k2.c0 (And.intro k2.c1 k2.c2)); have HB3 := Lib.hid hB3; clear hB3 k2))
  all_goals (
    clear K0 K1 K2 Ha Hc1
    have bc := HB2.out.trans (HB3.out.mono HB2.out.size)
    replace HT : Hid (Tab w13) := HT.out.below bc
    replace HXl : Hid (Lim w13 (some ⟨w1.heap.size, 0, none⟩) 1 1 [a]) := HXl.out.below bc
    replace HX : Hid (Bd w13 (w1.heap.size + 1 + 1) 32 false (some ⟨w1.heap.size, 0, none⟩) 1 1 i) := HX.out.below bc
    replace HPl : Hid (Lim w13 Ap mp cp ps) := HPl.out.below bc
    replace HP : Hid (Bd w13 w2.heap.size 32 gp Ap mp cp Ep) := HP.out.below bc
    replace HLl : Hid (Lim w13 A3a m3a c3a s3a) := HLl.out.below bc
    replace HHl : Hid (Lim w13 A3b m3b c3b s3b) := HHl.out.below bc
    replace HIl : Hid (Ib w13 w3.heap.size g3a A3a m3a c3a e3a g3b A3b m3b c3b e3b) := HIl.out.below bc
    replace HS := Lib.hid (HS.out.trans (bc.mono HS.out.size))
    clear bc HB2 HB3
    rcases Int.lt_trichotomy oo 0 with ho | ho | ho
    · have d5 : decide (oo < (0 : Int)) = true := decide_eq_true (by omega)
      have d6 : decide ((0 : Int) < oo) = false := decide_eq_false (by omega)
      have HIl_0 := HIl.out.x0
      have HIl_1 := HIl.out.x1
      have HIl_2 := HIl.out.x2
      have HIl_3 := HIl.out.x3
      have HIl_4 := HIl.out.x4
      have HIl_5 := HIl.out.x5
      obtain ⟨vf, hvf⟩ : ∃ v, cmpI Ll 0 = v := ⟨_, rfl⟩
      have cvf : decide (vf ≤ (0 : Int)) = true := by rw [← hvf]; exact decide_eq_true (cmpI_down (rules_down HD.out.2.1.1 HQl.out.1 (by rw [HD.out.2.2.1.1, ← rat_one]; exact rat_of_cmp (by rw [HO.out]; omega))))
      have H7 := Lib.hid (sign_l vf g3a A3a m3a c3a s3a e3a w13 HLl.out (by omega) (by show _ = _; rw [← hvf]; exact un_sg HQl.out.2.1))
      clear hvf
      go_wp2_with fail
      refine H7.out.mono ?_
      rintro e w14 ⟨rfl, hB⟩
      clear HIl_0 HIl_1 HIl_2 HIl_3 HIl_4 HIl_5
      replace HT : Hid (Tab w14) := HT.out.below hB
      replace HXl : Hid (Lim w14 (some ⟨w1.heap.size, 0, none⟩) 1 1 [a]) := HXl.out.below hB
      replace HX : Hid (Bd w14 (w1.heap.size + 1 + 1) 32 false (some ⟨w1.heap.size, 0, none⟩) 1 1 i) := HX.out.below hB
      replace HPl : Hid (Lim w14 Ap mp cp ps) := HPl.out.below hB
      replace HP : Hid (Bd w14 w2.heap.size 32 gp Ap mp cp Ep) := HP.out.below hB
      replace HLl : Hid (Lim w14 A3a m3a c3a s3a) := HLl.out.below hB
      replace HHl : Hid (Lim w14 A3b m3b c3b s3b) := HHl.out.below hB
      replace HIl : Hid (Ib w14 w3.heap.size g3a A3a m3a c3a e3a g3b A3b m3b c3b e3b) := HIl.out.below hB
      replace HS := Lib.hid (HS.out.trans (hB.mono HS.out.size))
      clear hB H7
      have HP_0 := HP.out.c0
      have HP_1 := HP.out.c1
      have HP_2 := HP.out.c2
      obtain ⟨bp, hbp⟩ : ∃ b, blen (val ps) = b := ⟨_, rfl⟩
      have hbp0 : 0 < bp := by rw [← hbp]; exact blen_pos (by rw [HPv.out.2]; exact HD.out.2.2.2.2.2)
      have d7 : decide ((0 : Int) < (bp : Int)) = true := decide_eq_true (by omega)
      have d8 : decide (0 < bp) = true := decide_eq_true hbp0
      have H8 := Lib.hid (bits_l bp Ap mp cp ps w14 HPl.out (by omega) hbp)
      clear hbp hbp0 ho
      go_wp2_with fail
      refine H8.out.mono ?_
      rintro e w' ⟨rfl, rfl⟩
      have Hfin := Lib.hid HS.out
      clear HP_0 HP_1 HP_2
      clear H8 HS HD HO HQl HBl HPv HT HXl HX HPl HP HLl HHl HIl
      go_wp2
      go_ret
      exact ⟨rfl, Hfin.out⟩
    · have d5 : decide (oo < (0 : Int)) = false := decide_eq_false (by omega)
      have d6 : decide ((0 : Int) < oo) = false := decide_eq_false (by omega)
      have HIl_0 := HIl.out.x0
      have HIl_1 := HIl.out.x1
      have HIl_2 := HIl.out.x2
      have HIl_3 := HIl.out.x3
      have HIl_4 := HIl.out.x4
      have HIl_5 := HIl.out.x5
      obtain ⟨ve, hve⟩ : ∃ v, cmpI Ul 0 = v := ⟨_, rfl⟩
      have cve : decide ((0 : Int) ≤ ve) = true := by rw [← hve]; exact decide_eq_true (cmpI_up (rules_up HD.out.2.1.1 HQl.out.1 (by rw [HD.out.2.2.1.1, ← rat_one]; exact rat_of_cmp' (by rw [HO.out]; omega))))
      have H7 := Lib.hid (sign_l ve g3b A3b m3b c3b s3b e3b w13 HHl.out (by omega) (by show _ = _; rw [← hve]; exact un_sg HQl.out.2.2))
      clear hve
      go_wp2_with fail
      refine H7.out.mono ?_
      rintro e w14 ⟨rfl, hB⟩
      clear HIl_0 HIl_1 HIl_2 HIl_3 HIl_4 HIl_5
      replace HT : Hid (Tab w14) := HT.out.below hB
      replace HXl : Hid (Lim w14 (some ⟨w1.heap.size, 0, none⟩) 1 1 [a]) := HXl.out.below hB
      replace HX : Hid (Bd w14 (w1.heap.size + 1 + 1) 32 false (some ⟨w1.heap.size, 0, none⟩) 1 1 i) := HX.out.below hB
      replace HPl : Hid (Lim w14 Ap mp cp ps) := HPl.out.below hB
      replace HP : Hid (Bd w14 w2.heap.size 32 gp Ap mp cp Ep) := HP.out.below hB
      replace HLl : Hid (Lim w14 A3a m3a c3a s3a) := HLl.out.below hB
      replace HHl : Hid (Lim w14 A3b m3b c3b s3b) := HHl.out.below hB
      replace HIl : Hid (Ib w14 w3.heap.size g3a A3a m3a c3a e3a g3b A3b m3b c3b e3b) := HIl.out.below hB
      replace HS := Lib.hid (HS.out.trans (hB.mono HS.out.size))
      clear hB H7
      have HIl_0 := HIl.out.x0
      have HIl_1 := HIl.out.x1
      have HIl_2 := HIl.out.x2
      have HIl_3 := HIl.out.x3
      have HIl_4 := HIl.out.x4
      have HIl_5 := HIl.out.x5
      obtain ⟨vf, hvf⟩ : ∃ v, cmpI Ll 0 = v := ⟨_, rfl⟩
      have cvf : decide (vf ≤ (0 : Int)) = true := by rw [← hvf]; exact decide_eq_true (cmpI_down (rules_down HD.out.2.1.1 HQl.out.1 (by rw [HD.out.2.2.1.1, ← rat_one]; exact rat_of_cmp (by rw [HO.out]; omega))))
      have H7 := Lib.hid (sign_l vf g3a A3a m3a c3a s3a e3a w14 HLl.out (by omega) (by show _ = _; rw [← hvf]; exact un_sg HQl.out.2.1))
      clear hvf
      go_wp2_with fail
      refine H7.out.mono ?_
      rintro e w15 ⟨rfl, hB⟩
      clear HIl_0 HIl_1 HIl_2 HIl_3 HIl_4 HIl_5
      replace HT : Hid (Tab w15) := HT.out.below hB
      replace HXl : Hid (Lim w15 (some ⟨w1.heap.size, 0, none⟩) 1 1 [a]) := HXl.out.below hB
      replace HX : Hid (Bd w15 (w1.heap.size + 1 + 1) 32 false (some ⟨w1.heap.size, 0, none⟩) 1 1 i) := HX.out.below hB
      replace HPl : Hid (Lim w15 Ap mp cp ps) := HPl.out.below hB
      replace HP : Hid (Bd w15 w2.heap.size 32 gp Ap mp cp Ep) := HP.out.below hB
      replace HLl : Hid (Lim w15 A3a m3a c3a s3a) := HLl.out.below hB
      replace HHl : Hid (Lim w15 A3b m3b c3b s3b) := HHl.out.below hB
      replace HIl : Hid (Ib w15 w3.heap.size g3a A3a m3a c3a e3a g3b A3b m3b c3b e3b) := HIl.out.below hB
      replace HS := Lib.hid (HS.out.trans (hB.mono HS.out.size))
      clear hB H7
      have HP_0 := HP.out.c0
      have HP_1 := HP.out.c1
      have HP_2 := HP.out.c2
      obtain ⟨bp, hbp⟩ : ∃ b, blen (val ps) = b := ⟨_, rfl⟩
      have hbp0 : 0 < bp := by rw [← hbp]; exact blen_pos (by rw [HPv.out.2]; exact HD.out.2.2.2.2.2)
      have d7 : decide ((0 : Int) < (bp : Int)) = true := decide_eq_true (by omega)
      have d8 : decide (0 < bp) = true := decide_eq_true hbp0
      have H8 := Lib.hid (bits_l bp Ap mp cp ps w15 HPl.out (by omega) hbp)
      clear hbp hbp0 ho
      go_wp2_with fail
      refine H8.out.mono ?_
      rintro e w' ⟨rfl, rfl⟩
      have Hfin := Lib.hid HS.out
      clear HP_0 HP_1 HP_2
      clear H8 HS HD HO HQl HBl HPv HT HXl HX HPl HP HLl HHl HIl
      go_wp2
      go_ret
      exact ⟨rfl, Hfin.out⟩
    · have d5 : decide (oo < (0 : Int)) = false := decide_eq_false (by omega)
      have d6 : decide ((0 : Int) < oo) = true := decide_eq_true (by omega)
      have HIl_0 := HIl.out.x0
      have HIl_1 := HIl.out.x1
      have HIl_2 := HIl.out.x2
      have HIl_3 := HIl.out.x3
      have HIl_4 := HIl.out.x4
      have HIl_5 := HIl.out.x5
      obtain ⟨ve, hve⟩ : ∃ v, cmpI Ul 0 = v := ⟨_, rfl⟩
      have cve : decide ((0 : Int) ≤ ve) = true := by rw [← hve]; exact decide_eq_true (cmpI_up (rules_up HD.out.2.1.1 HQl.out.1 (by rw [HD.out.2.2.1.1, ← rat_one]; exact rat_of_cmp' (by rw [HO.out]; omega))))
      have H7 := Lib.hid (sign_l ve g3b A3b m3b c3b s3b e3b w13 HHl.out (by omega) (by show _ = _; rw [← hve]; exact un_sg HQl.out.2.2))
      clear hve
      go_wp2_with fail
      refine H7.out.mono ?_
      rintro e w14 ⟨rfl, hB⟩
      clear HIl_0 HIl_1 HIl_2 HIl_3 HIl_4 HIl_5
      replace HT : Hid (Tab w14) := HT.out.below hB
      replace HXl : Hid (Lim w14 (some ⟨w1.heap.size, 0, none⟩) 1 1 [a]) := HXl.out.below hB
      replace HX : Hid (Bd w14 (w1.heap.size + 1 + 1) 32 false (some ⟨w1.heap.size, 0, none⟩) 1 1 i) := HX.out.below hB
      replace HPl : Hid (Lim w14 Ap mp cp ps) := HPl.out.below hB
      replace HP : Hid (Bd w14 w2.heap.size 32 gp Ap mp cp Ep) := HP.out.below hB
      replace HLl : Hid (Lim w14 A3a m3a c3a s3a) := HLl.out.below hB
      replace HHl : Hid (Lim w14 A3b m3b c3b s3b) := HHl.out.below hB
      replace HIl : Hid (Ib w14 w3.heap.size g3a A3a m3a c3a e3a g3b A3b m3b c3b e3b) := HIl.out.below hB
      replace HS := Lib.hid (HS.out.trans (hB.mono HS.out.size))
      clear hB H7
      have HP_0 := HP.out.c0
      have HP_1 := HP.out.c1
      have HP_2 := HP.out.c2
      obtain ⟨bp, hbp⟩ : ∃ b, blen (val ps) = b := ⟨_, rfl⟩
      have hbp0 : 0 < bp := by rw [← hbp]; exact blen_pos (by rw [HPv.out.2]; exact HD.out.2.2.2.2.2)
      have d7 : decide ((0 : Int) < (bp : Int)) = true := decide_eq_true (by omega)
      have d8 : decide (0 < bp) = true := decide_eq_true hbp0
      have H8 := Lib.hid (bits_l bp Ap mp cp ps w14 HPl.out (by omega) hbp)
      clear hbp hbp0 ho
      go_wp2_with fail
      refine H8.out.mono ?_
      rintro e w' ⟨rfl, rfl⟩
      have Hfin := Lib.hid HS.out
      clear HP_0 HP_1 HP_2
      clear H8 HS HD HO HQl HBl HPv HT HXl HX HPl HP HLl HHl HIl
      go_wp2
      go_ret
      exact ⟨rfl, Hfin.out⟩)

set_option maxHeartbeats 8000000 in
set_option maxRecDepth 20000 in
theorem lrules_eq (a b s : Nat) (i k : Int) (w : World) (hT : Tab w) (ha : a < 18446744073709551616) (hb : b < 18446744073709551616) (ha0 : a ≠ 0) (hb0 : b ≠ 0) (hi1 : -128 ≤ i) (hi2 : i ≤ 127) (hk1 : -128 ≤ k) (hk2 : k ≤ 127) (hs : s ≤ 255) (hc : cmpI (dw false a i) (dw false b k) = 0) :
    Calls Tryd.prog 4 #[.int .u64 (a : Int), .int .u64 (b : Int), .int .i8 i, .int .i8 k, .int .u8 (s : Int)] w fun e w' => e = .returned (.bool true) ∧ Below w.heap.size w w' := by
  obtain ⟨dx, dy, dp, mx, my, mp, lx, ly, rx, ry, np, dq, mq, lq, pq, rq⟩ := prod_of ha0 hb0 ha hb (show -1000 ≤ i by omega) (show i ≤ 1000 by omega) (show -1000 ≤ k by omega) (show k ≤ 1000 by omega)
  have H1 := Lib.hid (lalive_any w hT)
  have HT := Lib.hid hT
  have HS := Lib.hid (Below.refl w.heap.size w)
  have HD : Hid ((mk false a i = some dx ∧ mk false b k = some dy ∧ mulO (mk false a i) (mk false b k) = some dp) ∧ (LogD dx ∧ LogD dy ∧ LogD dq) ∧ (rat false dx.V dx.e = rat false a i ∧ rat false dy.V dy.e = rat false b k ∧ rat false dq.V dq.e = rat false dx.V dx.e * rat false dy.V dy.e) ∧ dp.neg = false ∧ mk false dp.V dp.e = some dq ∧ dp.V ≠ 0) := ⟨⟨mx, my, mp⟩, ⟨lx, ly, lq⟩, ⟨rx, ry, rq⟩, np, mq, pq⟩
  have b0 : ((a : Int) == 0) = false := beq_no (by omega)
  have b1 : ((b : Int) == 0) = false := beq_no (by omega)
  obtain ⟨z, hz⟩ : ∃ z, 16 + s = z := ⟨_, rfl⟩
  have ez : (16 : Int) + (s : Int) = (z : Int) := by omega
  have hz9 : z ≤ 271 := by omega
  have hz8 : 16 ≤ z := by omega
  obtain ⟨cc, hcc⟩ : ∃ c, cmpI (dw false a i) (dw false b k) = c := ⟨_, rfl⟩
  have HC : Hid (cmpI (dw false a i) (dw false b k) = cc ∧ cc = 0) := ⟨hcc, by rw [← hcc]; exact hc⟩
  obtain ⟨oo, hoo⟩ : ∃ c, cmpI (dw false a i) (dw false 1 0) = c := ⟨_, rfl⟩
  have HO := Lib.hid hoo
  have h4 := four_laid
  have HAB : Hid (a < 18446744073709551616 ∧ b < 18446744073709551616) := ⟨ha, hb⟩
  clear hT mx my mp lx ly rx ry np mq lq pq rq hz hcc hc hoo ha0 hb0 h4
  go_enter Tryd.func4, Tryd.ntmps4
  go_wp2_with fail
  refine H1.out.mono ?_
  rintro e w1 ⟨rfl, hB⟩
  replace HT : Hid (Tab w1) := HT.out.below hB
  replace HS := Lib.hid (HS.out.trans (hB.mono HS.out.size))
  clear hB H1
  have f4 := four_laid w1 a b i k HAB.out.1 HAB.out.2
  replace HT : Hid (Tab ((((w1.alloc (.cells #[.int .u64 (a : Int)] 40)).alloc (.cells #[.int .u64 (b : Int)] 40)).alloc (.cells #[.bool false, .slice (some ⟨w1.heap.size, 0, none⟩) 1 1, .int .i64 i] 32)).alloc (.cells #[.bool false, .slice (some ⟨w1.heap.size + 1, 0, none⟩) 1 1, .int .i64 k] 32))) := HT.out.below f4.1
  replace HS := Lib.hid (HS.out.trans (f4.1.mono HS.out.size))
  have HXl : Hid (Lim ((((w1.alloc (.cells #[.int .u64 (a : Int)] 40)).alloc (.cells #[.int .u64 (b : Int)] 40)).alloc (.cells #[.bool false, .slice (some ⟨w1.heap.size, 0, none⟩) 1 1, .int .i64 i] 32)).alloc (.cells #[.bool false, .slice (some ⟨w1.heap.size + 1, 0, none⟩) 1 1, .int .i64 k] 32)) (some ⟨w1.heap.size, 0, none⟩) 1 1 [a]) := f4.2.1
  have HYl : Hid (Lim ((((w1.alloc (.cells #[.int .u64 (a : Int)] 40)).alloc (.cells #[.int .u64 (b : Int)] 40)).alloc (.cells #[.bool false, .slice (some ⟨w1.heap.size, 0, none⟩) 1 1, .int .i64 i] 32)).alloc (.cells #[.bool false, .slice (some ⟨w1.heap.size + 1, 0, none⟩) 1 1, .int .i64 k] 32)) (some ⟨w1.heap.size + 1, 0, none⟩) 1 1 [b]) := f4.2.2.1
  have HX : Hid (Bd ((((w1.alloc (.cells #[.int .u64 (a : Int)] 40)).alloc (.cells #[.int .u64 (b : Int)] 40)).alloc (.cells #[.bool false, .slice (some ⟨w1.heap.size, 0, none⟩) 1 1, .int .i64 i] 32)).alloc (.cells #[.bool false, .slice (some ⟨w1.heap.size + 1, 0, none⟩) 1 1, .int .i64 k] 32)) (w1.heap.size + 1 + 1) 32 false (some ⟨w1.heap.size, 0, none⟩) 1 1 i) := f4.2.2.2.1
  have HY : Hid (Bd ((((w1.alloc (.cells #[.int .u64 (a : Int)] 40)).alloc (.cells #[.int .u64 (b : Int)] 40)).alloc (.cells #[.bool false, .slice (some ⟨w1.heap.size, 0, none⟩) 1 1, .int .i64 i] 32)).alloc (.cells #[.bool false, .slice (some ⟨w1.heap.size + 1, 0, none⟩) 1 1, .int .i64 k] 32)) (w1.heap.size + 1 + 1 + 1) 32 false (some ⟨w1.heap.size + 1, 0, none⟩) 1 1 k) := f4.2.2.2.2
  clear f4 HAB
  have H2 := Lib.hid (dmul_any (some dp) false (some ⟨w1.heap.size, 0, none⟩) 1 1 [a] i false (some ⟨w1.heap.size + 1, 0, none⟩) 1 1 [b] k ((((w1.alloc (.cells #[.int .u64 (a : Int)] 40)).alloc (.cells #[.int .u64 (b : Int)] 40)).alloc (.cells #[.bool false, .slice (some ⟨w1.heap.size, 0, none⟩) 1 1, .int .i64 i] 32)).alloc (.cells #[.bool false, .slice (some ⟨w1.heap.size + 1, 0, none⟩) 1 1, .int .i64 k] 32)) HXl.out HYl.out (by decide) (by decide) HT.out (by show _ = _; rw [lval_one, lval_one]; exact HD.out.1.2.2))
  have HX_0 := HX.out.c0
  have HX_1 := HX.out.c1
  have HX_2 := HX.out.c2
  have HY_0 := HY.out.c0
  have HY_1 := HY.out.c1
  have HY_2 := HY.out.c2
  go_wp2_with fail
  refine H2.out.mono ?_
  rintro e w2 ⟨gp, Ap, mp, cp, ps, Ep, rp, rfl, hmp, hlp, hbp, ⟨rfl, hgp, hVp, hEp⟩, hB⟩
  clear HX_0 HX_1 HX_2 HY_0 HY_1 HY_2
  replace HT : Hid (Tab w2) := HT.out.below hB
  replace HXl : Hid (Lim w2 (some ⟨w1.heap.size, 0, none⟩) 1 1 [a]) := HXl.out.below hB
  replace HYl : Hid (Lim w2 (some ⟨w1.heap.size + 1, 0, none⟩) 1 1 [b]) := HYl.out.below hB
  replace HX : Hid (Bd w2 (w1.heap.size + 1 + 1) 32 false (some ⟨w1.heap.size, 0, none⟩) 1 1 i) := HX.out.below hB
  replace HY : Hid (Bd w2 (w1.heap.size + 1 + 1 + 1) 32 false (some ⟨w1.heap.size + 1, 0, none⟩) 1 1 k) := HY.out.below hB
  replace HS := Lib.hid (HS.out.trans (hB.mono HS.out.size))
  obtain ⟨pgx, pV, pEx⟩ := dp
  dsimp only at *
  subst hgp hEp
  have HPl : Hid (Lim w2 Ap mp cp ps) := hlp
  have HPv : Hid (Bare ps ∧ val ps = pV) := ⟨hbp, hVp⟩
  clear hlp hbp hVp hB H2
  have ba := below1 w2 (.cells #[.bool gp, .slice Ap mp cp, .int .i64 Ep] 32)
  replace HT : Hid (Tab (w2.alloc (.cells #[.bool gp, .slice Ap mp cp, .int .i64 Ep] 32))) := HT.out.below ba
  replace HXl : Hid (Lim (w2.alloc (.cells #[.bool gp, .slice Ap mp cp, .int .i64 Ep] 32)) (some ⟨w1.heap.size, 0, none⟩) 1 1 [a]) := HXl.out.below ba
  replace HYl : Hid (Lim (w2.alloc (.cells #[.bool gp, .slice Ap mp cp, .int .i64 Ep] 32)) (some ⟨w1.heap.size + 1, 0, none⟩) 1 1 [b]) := HYl.out.below ba
  replace HX : Hid (Bd (w2.alloc (.cells #[.bool gp, .slice Ap mp cp, .int .i64 Ep] 32)) (w1.heap.size + 1 + 1) 32 false (some ⟨w1.heap.size, 0, none⟩) 1 1 i) := HX.out.below ba
  replace HY : Hid (Bd (w2.alloc (.cells #[.bool gp, .slice Ap mp cp, .int .i64 Ep] 32)) (w1.heap.size + 1 + 1 + 1) 32 false (some ⟨w1.heap.size + 1, 0, none⟩) 1 1 k) := HY.out.below ba
  replace HPl : Hid (Lim (w2.alloc (.cells #[.bool gp, .slice Ap mp cp, .int .i64 Ep] 32)) Ap mp cp ps) := HPl.out.below ba
  replace HS := Lib.hid (HS.out.trans (ba.mono HS.out.size))
  clear ba
  have HP : Hid (Bd (w2.alloc (.cells #[.bool gp, .slice Ap mp cp, .int .i64 Ep] 32)) w2.heap.size 32 gp Ap mp cp Ep) := Bd.new w2 32 gp Ap mp cp Ep
  have HX_0 := HX.out.c0
  have HX_1 := HX.out.c1
  have HX_2 := HX.out.c2
  have H3 := log_lg false (some ⟨w1.heap.size, 0, none⟩) 1 1 [a] i (z : Int) (w2.alloc (.cells #[.bool gp, .slice Ap mp cp, .int .i64 Ep] 32)) HXl.out (by omega) HT.out (by omega) (by omega)
  rw [lval_one] at H3
  replace H3 := Lib.hid H3
  go_wp2_with fail
  refine H3.out.mono ?_
  rintro e w3 ⟨g3a, A3a, m3a, c3a, s3a, e3a, g3b, A3b, m3b, c3b, s3b, e3b, r3, rfl, hm3a, hm3b, hl3a, hl3b, hb3a, hb3b, hB, hq⟩
  clear HX_0 HX_1 HX_2
  replace HT : Hid (Tab w3) := HT.out.below hB
  replace HXl : Hid (Lim w3 (some ⟨w1.heap.size, 0, none⟩) 1 1 [a]) := HXl.out.below hB
  replace HYl : Hid (Lim w3 (some ⟨w1.heap.size + 1, 0, none⟩) 1 1 [b]) := HYl.out.below hB
  replace HX : Hid (Bd w3 (w1.heap.size + 1 + 1) 32 false (some ⟨w1.heap.size, 0, none⟩) 1 1 i) := HX.out.below hB
  replace HY : Hid (Bd w3 (w1.heap.size + 1 + 1 + 1) 32 false (some ⟨w1.heap.size + 1, 0, none⟩) 1 1 k) := HY.out.below hB
  replace HPl : Hid (Lim w3 Ap mp cp ps) := HPl.out.below hB
  replace HP : Hid (Bd w3 w2.heap.size 32 gp Ap mp cp Ep) := HP.out.below hB
  replace HS := Lib.hid (HS.out.trans (hB.mono HS.out.size))
  have HLl : Hid (Lim w3 A3a m3a c3a s3a) := hl3a
  have HHl : Hid (Lim w3 A3b m3b c3b s3b) := hl3b
  have HBl : Hid (Bare s3a ∧ Bare s3b) := ⟨hb3a, hb3b⟩
  obtain ⟨rfl, Ll, Ul, hVl, hLl, hUl⟩ := logp_yes hq HD.out.1.1 HD.out.2.1.1 (by omega) (by omega)
  rw [Int.toNat_natCast] at hVl hLl hUl
  have HQl : Hid (LogV dx z Ll Ul ∧ Un z Ll ⟨g3a, val s3a, e3a⟩ ∧ Un z Ul ⟨g3b, val s3b, e3b⟩) := ⟨hVl, hLl, hUl⟩
  clear hVl hLl hUl
  clear hl3a hl3b hb3a hb3b hB hq H3
  have ba := below1 w3 (.cells #[.bool g3a, .slice A3a m3a c3a, .int .i64 e3a, .bool g3b, .slice A3b m3b c3b, .int .i64 e3b] 47)
  replace HT : Hid (Tab (w3.alloc (.cells #[.bool g3a, .slice A3a m3a c3a, .int .i64 e3a, .bool g3b, .slice A3b m3b c3b, .int .i64 e3b] 47))) := HT.out.below ba
  replace HXl : Hid (Lim (w3.alloc (.cells #[.bool g3a, .slice A3a m3a c3a, .int .i64 e3a, .bool g3b, .slice A3b m3b c3b, .int .i64 e3b] 47)) (some ⟨w1.heap.size, 0, none⟩) 1 1 [a]) := HXl.out.below ba
  replace HYl : Hid (Lim (w3.alloc (.cells #[.bool g3a, .slice A3a m3a c3a, .int .i64 e3a, .bool g3b, .slice A3b m3b c3b, .int .i64 e3b] 47)) (some ⟨w1.heap.size + 1, 0, none⟩) 1 1 [b]) := HYl.out.below ba
  replace HX : Hid (Bd (w3.alloc (.cells #[.bool g3a, .slice A3a m3a c3a, .int .i64 e3a, .bool g3b, .slice A3b m3b c3b, .int .i64 e3b] 47)) (w1.heap.size + 1 + 1) 32 false (some ⟨w1.heap.size, 0, none⟩) 1 1 i) := HX.out.below ba
  replace HY : Hid (Bd (w3.alloc (.cells #[.bool g3a, .slice A3a m3a c3a, .int .i64 e3a, .bool g3b, .slice A3b m3b c3b, .int .i64 e3b] 47)) (w1.heap.size + 1 + 1 + 1) 32 false (some ⟨w1.heap.size + 1, 0, none⟩) 1 1 k) := HY.out.below ba
  replace HPl : Hid (Lim (w3.alloc (.cells #[.bool g3a, .slice A3a m3a c3a, .int .i64 e3a, .bool g3b, .slice A3b m3b c3b, .int .i64 e3b] 47)) Ap mp cp ps) := HPl.out.below ba
  replace HP : Hid (Bd (w3.alloc (.cells #[.bool g3a, .slice A3a m3a c3a, .int .i64 e3a, .bool g3b, .slice A3b m3b c3b, .int .i64 e3b] 47)) w2.heap.size 32 gp Ap mp cp Ep) := HP.out.below ba
  replace HLl : Hid (Lim (w3.alloc (.cells #[.bool g3a, .slice A3a m3a c3a, .int .i64 e3a, .bool g3b, .slice A3b m3b c3b, .int .i64 e3b] 47)) A3a m3a c3a s3a) := HLl.out.below ba
  replace HHl : Hid (Lim (w3.alloc (.cells #[.bool g3a, .slice A3a m3a c3a, .int .i64 e3a, .bool g3b, .slice A3b m3b c3b, .int .i64 e3b] 47)) A3b m3b c3b s3b) := HHl.out.below ba
  replace HS := Lib.hid (HS.out.trans (ba.mono HS.out.size))
  clear ba
  have HIl : Hid (Ib (w3.alloc (.cells #[.bool g3a, .slice A3a m3a c3a, .int .i64 e3a, .bool g3b, .slice A3b m3b c3b, .int .i64 e3b] 47)) w3.heap.size g3a A3a m3a c3a e3a g3b A3b m3b c3b e3b) := Ib.new w3 g3a A3a m3a c3a e3a g3b A3b m3b c3b e3b
  have HY_0 := HY.out.c0
  have HY_1 := HY.out.c1
  have HY_2 := HY.out.c2
  have H3 := log_lg false (some ⟨w1.heap.size + 1, 0, none⟩) 1 1 [b] k (z : Int) (w3.alloc (.cells #[.bool g3a, .slice A3a m3a c3a, .int .i64 e3a, .bool g3b, .slice A3b m3b c3b, .int .i64 e3b] 47)) HYl.out (by omega) HT.out (by omega) (by omega)
  rw [lval_one] at H3
  replace H3 := Lib.hid H3
  go_wp2_with fail
  refine H3.out.mono ?_
  rintro e w4 ⟨g4a, A4a, m4a, c4a, s4a, e4a, g4b, A4b, m4b, c4b, s4b, e4b, r4, rfl, hm4a, hm4b, hl4a, hl4b, hb4a, hb4b, hB, hq⟩
  clear HY_0 HY_1 HY_2
  replace HT : Hid (Tab w4) := HT.out.below hB
  replace HXl : Hid (Lim w4 (some ⟨w1.heap.size, 0, none⟩) 1 1 [a]) := HXl.out.below hB
  replace HYl : Hid (Lim w4 (some ⟨w1.heap.size + 1, 0, none⟩) 1 1 [b]) := HYl.out.below hB
  replace HX : Hid (Bd w4 (w1.heap.size + 1 + 1) 32 false (some ⟨w1.heap.size, 0, none⟩) 1 1 i) := HX.out.below hB
  replace HY : Hid (Bd w4 (w1.heap.size + 1 + 1 + 1) 32 false (some ⟨w1.heap.size + 1, 0, none⟩) 1 1 k) := HY.out.below hB
  replace HPl : Hid (Lim w4 Ap mp cp ps) := HPl.out.below hB
  replace HP : Hid (Bd w4 w2.heap.size 32 gp Ap mp cp Ep) := HP.out.below hB
  replace HLl : Hid (Lim w4 A3a m3a c3a s3a) := HLl.out.below hB
  replace HHl : Hid (Lim w4 A3b m3b c3b s3b) := HHl.out.below hB
  replace HIl : Hid (Ib w4 w3.heap.size g3a A3a m3a c3a e3a g3b A3b m3b c3b e3b) := HIl.out.below hB
  replace HS := Lib.hid (HS.out.trans (hB.mono HS.out.size))
  have HLm : Hid (Lim w4 A4a m4a c4a s4a) := hl4a
  have HHm : Hid (Lim w4 A4b m4b c4b s4b) := hl4b
  have HBm : Hid (Bare s4a ∧ Bare s4b) := ⟨hb4a, hb4b⟩
  obtain ⟨rfl, Lm, Um, hVm, hLm, hUm⟩ := logp_yes hq HD.out.1.2.1 HD.out.2.1.2.1 (by omega) (by omega)
  rw [Int.toNat_natCast] at hVm hLm hUm
  have HQm : Hid (LogV dy z Lm Um ∧ Un z Lm ⟨g4a, val s4a, e4a⟩ ∧ Un z Um ⟨g4b, val s4b, e4b⟩) := ⟨hVm, hLm, hUm⟩
  clear hVm hLm hUm
  clear hl4a hl4b hb4a hb4b hB hq H3
  have ba := below1 w4 (.cells #[.bool g4a, .slice A4a m4a c4a, .int .i64 e4a, .bool g4b, .slice A4b m4b c4b, .int .i64 e4b] 47)
  replace HT : Hid (Tab (w4.alloc (.cells #[.bool g4a, .slice A4a m4a c4a, .int .i64 e4a, .bool g4b, .slice A4b m4b c4b, .int .i64 e4b] 47))) := HT.out.below ba
  replace HXl : Hid (Lim (w4.alloc (.cells #[.bool g4a, .slice A4a m4a c4a, .int .i64 e4a, .bool g4b, .slice A4b m4b c4b, .int .i64 e4b] 47)) (some ⟨w1.heap.size, 0, none⟩) 1 1 [a]) := HXl.out.below ba
  replace HYl : Hid (Lim (w4.alloc (.cells #[.bool g4a, .slice A4a m4a c4a, .int .i64 e4a, .bool g4b, .slice A4b m4b c4b, .int .i64 e4b] 47)) (some ⟨w1.heap.size + 1, 0, none⟩) 1 1 [b]) := HYl.out.below ba
  replace HX : Hid (Bd (w4.alloc (.cells #[.bool g4a, .slice A4a m4a c4a, .int .i64 e4a, .bool g4b, .slice A4b m4b c4b, .int .i64 e4b] 47)) (w1.heap.size + 1 + 1) 32 false (some ⟨w1.heap.size, 0, none⟩) 1 1 i) := HX.out.below ba
  replace HY : Hid (Bd (w4.alloc (.cells #[.bool g4a, .slice A4a m4a c4a, .int .i64 e4a, .bool g4b, .slice A4b m4b c4b, .int .i64 e4b] 47)) (w1.heap.size + 1 + 1 + 1) 32 false (some ⟨w1.heap.size + 1, 0, none⟩) 1 1 k) := HY.out.below ba
  replace HPl : Hid (Lim (w4.alloc (.cells #[.bool g4a, .slice A4a m4a c4a, .int .i64 e4a, .bool g4b, .slice A4b m4b c4b, .int .i64 e4b] 47)) Ap mp cp ps) := HPl.out.below ba
  replace HP : Hid (Bd (w4.alloc (.cells #[.bool g4a, .slice A4a m4a c4a, .int .i64 e4a, .bool g4b, .slice A4b m4b c4b, .int .i64 e4b] 47)) w2.heap.size 32 gp Ap mp cp Ep) := HP.out.below ba
  replace HLl : Hid (Lim (w4.alloc (.cells #[.bool g4a, .slice A4a m4a c4a, .int .i64 e4a, .bool g4b, .slice A4b m4b c4b, .int .i64 e4b] 47)) A3a m3a c3a s3a) := HLl.out.below ba
  replace HHl : Hid (Lim (w4.alloc (.cells #[.bool g4a, .slice A4a m4a c4a, .int .i64 e4a, .bool g4b, .slice A4b m4b c4b, .int .i64 e4b] 47)) A3b m3b c3b s3b) := HHl.out.below ba
  replace HIl : Hid (Ib (w4.alloc (.cells #[.bool g4a, .slice A4a m4a c4a, .int .i64 e4a, .bool g4b, .slice A4b m4b c4b, .int .i64 e4b] 47)) w3.heap.size g3a A3a m3a c3a e3a g3b A3b m3b c3b e3b) := HIl.out.below ba
  replace HLm : Hid (Lim (w4.alloc (.cells #[.bool g4a, .slice A4a m4a c4a, .int .i64 e4a, .bool g4b, .slice A4b m4b c4b, .int .i64 e4b] 47)) A4a m4a c4a s4a) := HLm.out.below ba
  replace HHm : Hid (Lim (w4.alloc (.cells #[.bool g4a, .slice A4a m4a c4a, .int .i64 e4a, .bool g4b, .slice A4b m4b c4b, .int .i64 e4b] 47)) A4b m4b c4b s4b) := HHm.out.below ba
  replace HS := Lib.hid (HS.out.trans (ba.mono HS.out.size))
  clear ba
  have HIm : Hid (Ib (w4.alloc (.cells #[.bool g4a, .slice A4a m4a c4a, .int .i64 e4a, .bool g4b, .slice A4b m4b c4b, .int .i64 e4b] 47)) w4.heap.size g4a A4a m4a c4a e4a g4b A4b m4b c4b e4b) := Ib.new w4 g4a A4a m4a c4a e4a g4b A4b m4b c4b e4b
  have HP_0 := HP.out.c0
  have HP_1 := HP.out.c1
  have HP_2 := HP.out.c2
  have H3 := log_lg gp Ap mp cp ps Ep (z : Int) (w4.alloc (.cells #[.bool g4a, .slice A4a m4a c4a, .int .i64 e4a, .bool g4b, .slice A4b m4b c4b, .int .i64 e4b] 47)) HPl.out (by omega) HT.out (by omega) (by omega)
  rw [HPv.out.2] at H3
  replace H3 := Lib.hid H3
  go_wp2_with fail
  refine H3.out.mono ?_
  rintro e w5 ⟨g5a, A5a, m5a, c5a, s5a, e5a, g5b, A5b, m5b, c5b, s5b, e5b, r5, rfl, hm5a, hm5b, hl5a, hl5b, hb5a, hb5b, hB, hq⟩
  clear HP_0 HP_1 HP_2
  replace HT : Hid (Tab w5) := HT.out.below hB
  replace HXl : Hid (Lim w5 (some ⟨w1.heap.size, 0, none⟩) 1 1 [a]) := HXl.out.below hB
  replace HYl : Hid (Lim w5 (some ⟨w1.heap.size + 1, 0, none⟩) 1 1 [b]) := HYl.out.below hB
  replace HX : Hid (Bd w5 (w1.heap.size + 1 + 1) 32 false (some ⟨w1.heap.size, 0, none⟩) 1 1 i) := HX.out.below hB
  replace HY : Hid (Bd w5 (w1.heap.size + 1 + 1 + 1) 32 false (some ⟨w1.heap.size + 1, 0, none⟩) 1 1 k) := HY.out.below hB
  replace HPl : Hid (Lim w5 Ap mp cp ps) := HPl.out.below hB
  replace HP : Hid (Bd w5 w2.heap.size 32 gp Ap mp cp Ep) := HP.out.below hB
  replace HLl : Hid (Lim w5 A3a m3a c3a s3a) := HLl.out.below hB
  replace HHl : Hid (Lim w5 A3b m3b c3b s3b) := HHl.out.below hB
  replace HIl : Hid (Ib w5 w3.heap.size g3a A3a m3a c3a e3a g3b A3b m3b c3b e3b) := HIl.out.below hB
  replace HLm : Hid (Lim w5 A4a m4a c4a s4a) := HLm.out.below hB
  replace HHm : Hid (Lim w5 A4b m4b c4b s4b) := HHm.out.below hB
  replace HIm : Hid (Ib w5 w4.heap.size g4a A4a m4a c4a e4a g4b A4b m4b c4b e4b) := HIm.out.below hB
  replace HS := Lib.hid (HS.out.trans (hB.mono HS.out.size))
  have HLp : Hid (Lim w5 A5a m5a c5a s5a) := hl5a
  have HHp : Hid (Lim w5 A5b m5b c5b s5b) := hl5b
  have HBp : Hid (Bare s5a ∧ Bare s5b) := ⟨hb5a, hb5b⟩
  obtain ⟨rfl, Lp, Up, hVp, hLp, hUp⟩ := logp_yes hq (show mk gp pV Ep = some dq by have h1 := HD.out.2.2.2.1; rw [h1]; exact HD.out.2.2.2.2.1) HD.out.2.1.2.2 (by omega) (by omega)
  rw [Int.toNat_natCast] at hVp hLp hUp
  have HQp : Hid (LogV dq z Lp Up ∧ Un z Lp ⟨g5a, val s5a, e5a⟩ ∧ Un z Up ⟨g5b, val s5b, e5b⟩) := ⟨hVp, hLp, hUp⟩
  clear hVp hLp hUp
  clear hl5a hl5b hb5a hb5b hB hq H3
  have ba := below1 w5 (.cells #[.bool g5a, .slice A5a m5a c5a, .int .i64 e5a, .bool g5b, .slice A5b m5b c5b, .int .i64 e5b] 47)
  replace HT : Hid (Tab (w5.alloc (.cells #[.bool g5a, .slice A5a m5a c5a, .int .i64 e5a, .bool g5b, .slice A5b m5b c5b, .int .i64 e5b] 47))) := HT.out.below ba
  replace HXl : Hid (Lim (w5.alloc (.cells #[.bool g5a, .slice A5a m5a c5a, .int .i64 e5a, .bool g5b, .slice A5b m5b c5b, .int .i64 e5b] 47)) (some ⟨w1.heap.size, 0, none⟩) 1 1 [a]) := HXl.out.below ba
  replace HYl : Hid (Lim (w5.alloc (.cells #[.bool g5a, .slice A5a m5a c5a, .int .i64 e5a, .bool g5b, .slice A5b m5b c5b, .int .i64 e5b] 47)) (some ⟨w1.heap.size + 1, 0, none⟩) 1 1 [b]) := HYl.out.below ba
  replace HX : Hid (Bd (w5.alloc (.cells #[.bool g5a, .slice A5a m5a c5a, .int .i64 e5a, .bool g5b, .slice A5b m5b c5b, .int .i64 e5b] 47)) (w1.heap.size + 1 + 1) 32 false (some ⟨w1.heap.size, 0, none⟩) 1 1 i) := HX.out.below ba
  replace HY : Hid (Bd (w5.alloc (.cells #[.bool g5a, .slice A5a m5a c5a, .int .i64 e5a, .bool g5b, .slice A5b m5b c5b, .int .i64 e5b] 47)) (w1.heap.size + 1 + 1 + 1) 32 false (some ⟨w1.heap.size + 1, 0, none⟩) 1 1 k) := HY.out.below ba
  replace HPl : Hid (Lim (w5.alloc (.cells #[.bool g5a, .slice A5a m5a c5a, .int .i64 e5a, .bool g5b, .slice A5b m5b c5b, .int .i64 e5b] 47)) Ap mp cp ps) := HPl.out.below ba
  replace HP : Hid (Bd (w5.alloc (.cells #[.bool g5a, .slice A5a m5a c5a, .int .i64 e5a, .bool g5b, .slice A5b m5b c5b, .int .i64 e5b] 47)) w2.heap.size 32 gp Ap mp cp Ep) := HP.out.below ba
  replace HLl : Hid (Lim (w5.alloc (.cells #[.bool g5a, .slice A5a m5a c5a, .int .i64 e5a, .bool g5b, .slice A5b m5b c5b, .int .i64 e5b] 47)) A3a m3a c3a s3a) := HLl.out.below ba
  replace HHl : Hid (Lim (w5.alloc (.cells #[.bool g5a, .slice A5a m5a c5a, .int .i64 e5a, .bool g5b, .slice A5b m5b c5b, .int .i64 e5b] 47)) A3b m3b c3b s3b) := HHl.out.below ba
  replace HIl : Hid (Ib (w5.alloc (.cells #[.bool g5a, .slice A5a m5a c5a, .int .i64 e5a, .bool g5b, .slice A5b m5b c5b, .int .i64 e5b] 47)) w3.heap.size g3a A3a m3a c3a e3a g3b A3b m3b c3b e3b) := HIl.out.below ba
  replace HLm : Hid (Lim (w5.alloc (.cells #[.bool g5a, .slice A5a m5a c5a, .int .i64 e5a, .bool g5b, .slice A5b m5b c5b, .int .i64 e5b] 47)) A4a m4a c4a s4a) := HLm.out.below ba
  replace HHm : Hid (Lim (w5.alloc (.cells #[.bool g5a, .slice A5a m5a c5a, .int .i64 e5a, .bool g5b, .slice A5b m5b c5b, .int .i64 e5b] 47)) A4b m4b c4b s4b) := HHm.out.below ba
  replace HIm : Hid (Ib (w5.alloc (.cells #[.bool g5a, .slice A5a m5a c5a, .int .i64 e5a, .bool g5b, .slice A5b m5b c5b, .int .i64 e5b] 47)) w4.heap.size g4a A4a m4a c4a e4a g4b A4b m4b c4b e4b) := HIm.out.below ba
  replace HLp : Hid (Lim (w5.alloc (.cells #[.bool g5a, .slice A5a m5a c5a, .int .i64 e5a, .bool g5b, .slice A5b m5b c5b, .int .i64 e5b] 47)) A5a m5a c5a s5a) := HLp.out.below ba
  replace HHp : Hid (Lim (w5.alloc (.cells #[.bool g5a, .slice A5a m5a c5a, .int .i64 e5a, .bool g5b, .slice A5b m5b c5b, .int .i64 e5b] 47)) A5b m5b c5b s5b) := HHp.out.below ba
  replace HS := Lib.hid (HS.out.trans (ba.mono HS.out.size))
  clear ba
  have HIp : Hid (Ib (w5.alloc (.cells #[.bool g5a, .slice A5a m5a c5a, .int .i64 e5a, .bool g5b, .slice A5b m5b c5b, .int .i64 e5b] 47)) w5.heap.size g5a A5a m5a c5a e5a g5b A5b m5b c5b e5b) := Ib.new w5 g5a A5a m5a c5a e5a g5b A5b m5b c5b e5b
  have hr := rules_sum HD.out.2.1.1 HD.out.2.1.2.1 HD.out.2.1.2.2 HQl.out.1 HQm.out.1 HQp.out.1 HD.out.2.2.1.2.2
  have HRs : Hid (Ll + Lm ≤ Up ∧ Lp ≤ Ul + Um) := hr
  clear hr
  have hfl := log_far HD.out.2.1.1 (by omega) (by omega) HQl.out.1
  have hfm := log_far HD.out.2.1.2.1 (by omega) (by omega) HQm.out.1
  have hs1 := far_sum hfl.1 hfm.1
  have hs2 := far_sum hfl.2 hfm.2
  obtain ⟨dlo, hlo1, hlo2⟩ := un_add HQl.out.2.1 HQm.out.2.1 (by omega) hs1.1 hs1.2.1
  obtain ⟨dhi, hhi1, hhi2⟩ := un_add HQl.out.2.2 HQm.out.2.2 (by omega) hs2.1 hs2.2.1
  dsimp only at hlo1 hhi1
  have HLo : Hid (_ ∧ Un z (Ll + Lm) dlo) := ⟨hlo1, hlo2⟩
  have HHi : Hid (_ ∧ Un z (Ul + Um) dhi) := ⟨hhi1, hhi2⟩
  clear hfl hfm hs1 hs2 hlo1 hlo2 hhi1 hhi2
  have HIl_0 := HIl.out.x0
  have HIl_1 := HIl.out.x1
  have HIl_2 := HIl.out.x2
  have HIl_3 := HIl.out.x3
  have HIl_4 := HIl.out.x4
  have HIl_5 := HIl.out.x5
  have HIm_0 := HIm.out.x0
  have HIm_1 := HIm.out.x1
  have HIm_2 := HIm.out.x2
  have HIm_3 := HIm.out.x3
  have HIm_4 := HIm.out.x4
  have HIm_5 := HIm.out.x5
  have H4 := Lib.hid (dadd_any (some dlo) g3a A3a m3a c3a s3a e3a g4a A4a m4a c4a s4a e4a (w5.alloc (.cells #[.bool g5a, .slice A5a m5a c5a, .int .i64 e5a, .bool g5b, .slice A5b m5b c5b, .int .i64 e5b] 47)) HLl.out HLm.out (by omega) (by omega) HT.out HLo.out.1)
  go_wp2_with fail
  refine H4.out.mono ?_
  rintro e w6 ⟨g6, A6, m6, c6, s6, e6, r6, rfl, hm6, hl6, hb6, ⟨rfl, hg6, hV6, hE6⟩, hB⟩
  clear HIl_0 HIl_1 HIl_2 HIl_3 HIl_4 HIl_5 HIm_0 HIm_1 HIm_2 HIm_3 HIm_4 HIm_5
  replace HT : Hid (Tab w6) := HT.out.below hB
  replace HXl : Hid (Lim w6 (some ⟨w1.heap.size, 0, none⟩) 1 1 [a]) := HXl.out.below hB
  replace HYl : Hid (Lim w6 (some ⟨w1.heap.size + 1, 0, none⟩) 1 1 [b]) := HYl.out.below hB
  replace HX : Hid (Bd w6 (w1.heap.size + 1 + 1) 32 false (some ⟨w1.heap.size, 0, none⟩) 1 1 i) := HX.out.below hB
  replace HY : Hid (Bd w6 (w1.heap.size + 1 + 1 + 1) 32 false (some ⟨w1.heap.size + 1, 0, none⟩) 1 1 k) := HY.out.below hB
  replace HPl : Hid (Lim w6 Ap mp cp ps) := HPl.out.below hB
  replace HP : Hid (Bd w6 w2.heap.size 32 gp Ap mp cp Ep) := HP.out.below hB
  replace HLl : Hid (Lim w6 A3a m3a c3a s3a) := HLl.out.below hB
  replace HHl : Hid (Lim w6 A3b m3b c3b s3b) := HHl.out.below hB
  replace HIl : Hid (Ib w6 w3.heap.size g3a A3a m3a c3a e3a g3b A3b m3b c3b e3b) := HIl.out.below hB
  replace HLm : Hid (Lim w6 A4a m4a c4a s4a) := HLm.out.below hB
  replace HHm : Hid (Lim w6 A4b m4b c4b s4b) := HHm.out.below hB
  replace HIm : Hid (Ib w6 w4.heap.size g4a A4a m4a c4a e4a g4b A4b m4b c4b e4b) := HIm.out.below hB
  replace HLp : Hid (Lim w6 A5a m5a c5a s5a) := HLp.out.below hB
  replace HHp : Hid (Lim w6 A5b m5b c5b s5b) := HHp.out.below hB
  replace HIp : Hid (Ib w6 w5.heap.size g5a A5a m5a c5a e5a g5b A5b m5b c5b e5b) := HIp.out.below hB
  replace HS := Lib.hid (HS.out.trans (hB.mono HS.out.size))
  have Hlol : Hid (Lim w6 A6 m6 c6 s6) := hl6
  have Hloq : Hid (dlo = ⟨g6, val s6, e6⟩) := by show _ = _; rw [hg6, hV6, hE6]
  clear hl6 hb6 hg6 hV6 hE6 hB H4
  have ba := below1 w6 (.cells #[.bool g6, .slice A6 m6 c6, .int .i64 e6] 32)
  replace HT : Hid (Tab (w6.alloc (.cells #[.bool g6, .slice A6 m6 c6, .int .i64 e6] 32))) := HT.out.below ba
  replace HXl : Hid (Lim (w6.alloc (.cells #[.bool g6, .slice A6 m6 c6, .int .i64 e6] 32)) (some ⟨w1.heap.size, 0, none⟩) 1 1 [a]) := HXl.out.below ba
  replace HYl : Hid (Lim (w6.alloc (.cells #[.bool g6, .slice A6 m6 c6, .int .i64 e6] 32)) (some ⟨w1.heap.size + 1, 0, none⟩) 1 1 [b]) := HYl.out.below ba
  replace HX : Hid (Bd (w6.alloc (.cells #[.bool g6, .slice A6 m6 c6, .int .i64 e6] 32)) (w1.heap.size + 1 + 1) 32 false (some ⟨w1.heap.size, 0, none⟩) 1 1 i) := HX.out.below ba
  replace HY : Hid (Bd (w6.alloc (.cells #[.bool g6, .slice A6 m6 c6, .int .i64 e6] 32)) (w1.heap.size + 1 + 1 + 1) 32 false (some ⟨w1.heap.size + 1, 0, none⟩) 1 1 k) := HY.out.below ba
  replace HPl : Hid (Lim (w6.alloc (.cells #[.bool g6, .slice A6 m6 c6, .int .i64 e6] 32)) Ap mp cp ps) := HPl.out.below ba
  replace HP : Hid (Bd (w6.alloc (.cells #[.bool g6, .slice A6 m6 c6, .int .i64 e6] 32)) w2.heap.size 32 gp Ap mp cp Ep) := HP.out.below ba
  replace HLl : Hid (Lim (w6.alloc (.cells #[.bool g6, .slice A6 m6 c6, .int .i64 e6] 32)) A3a m3a c3a s3a) := HLl.out.below ba
  replace HHl : Hid (Lim (w6.alloc (.cells #[.bool g6, .slice A6 m6 c6, .int .i64 e6] 32)) A3b m3b c3b s3b) := HHl.out.below ba
  replace HIl : Hid (Ib (w6.alloc (.cells #[.bool g6, .slice A6 m6 c6, .int .i64 e6] 32)) w3.heap.size g3a A3a m3a c3a e3a g3b A3b m3b c3b e3b) := HIl.out.below ba
  replace HLm : Hid (Lim (w6.alloc (.cells #[.bool g6, .slice A6 m6 c6, .int .i64 e6] 32)) A4a m4a c4a s4a) := HLm.out.below ba
  replace HHm : Hid (Lim (w6.alloc (.cells #[.bool g6, .slice A6 m6 c6, .int .i64 e6] 32)) A4b m4b c4b s4b) := HHm.out.below ba
  replace HIm : Hid (Ib (w6.alloc (.cells #[.bool g6, .slice A6 m6 c6, .int .i64 e6] 32)) w4.heap.size g4a A4a m4a c4a e4a g4b A4b m4b c4b e4b) := HIm.out.below ba
  replace HLp : Hid (Lim (w6.alloc (.cells #[.bool g6, .slice A6 m6 c6, .int .i64 e6] 32)) A5a m5a c5a s5a) := HLp.out.below ba
  replace HHp : Hid (Lim (w6.alloc (.cells #[.bool g6, .slice A6 m6 c6, .int .i64 e6] 32)) A5b m5b c5b s5b) := HHp.out.below ba
  replace HIp : Hid (Ib (w6.alloc (.cells #[.bool g6, .slice A6 m6 c6, .int .i64 e6] 32)) w5.heap.size g5a A5a m5a c5a e5a g5b A5b m5b c5b e5b) := HIp.out.below ba
  replace Hlol : Hid (Lim (w6.alloc (.cells #[.bool g6, .slice A6 m6 c6, .int .i64 e6] 32)) A6 m6 c6 s6) := Hlol.out.below ba
  replace HS := Lib.hid (HS.out.trans (ba.mono HS.out.size))
  clear ba
  have Hlo : Hid (Bd (w6.alloc (.cells #[.bool g6, .slice A6 m6 c6, .int .i64 e6] 32)) w6.heap.size 32 g6 A6 m6 c6 e6) := Bd.new w6 32 g6 A6 m6 c6 e6
  have HIl_0 := HIl.out.x0
  have HIl_1 := HIl.out.x1
  have HIl_2 := HIl.out.x2
  have HIl_3 := HIl.out.x3
  have HIl_4 := HIl.out.x4
  have HIl_5 := HIl.out.x5
  have HIm_0 := HIm.out.x0
  have HIm_1 := HIm.out.x1
  have HIm_2 := HIm.out.x2
  have HIm_3 := HIm.out.x3
  have HIm_4 := HIm.out.x4
  have HIm_5 := HIm.out.x5
  have H4 := Lib.hid (dadd_any (some dhi) g3b A3b m3b c3b s3b e3b g4b A4b m4b c4b s4b e4b (w6.alloc (.cells #[.bool g6, .slice A6 m6 c6, .int .i64 e6] 32)) HHl.out HHm.out (by omega) (by omega) HT.out HHi.out.1)
  go_wp2_with fail
  refine H4.out.mono ?_
  rintro e w7 ⟨g7, A7, m7, c7, s7, e7, r7, rfl, hm7, hl7, hb7, ⟨rfl, hg7, hV7, hE7⟩, hB⟩
  clear HIl_0 HIl_1 HIl_2 HIl_3 HIl_4 HIl_5 HIm_0 HIm_1 HIm_2 HIm_3 HIm_4 HIm_5
  replace HT : Hid (Tab w7) := HT.out.below hB
  replace HXl : Hid (Lim w7 (some ⟨w1.heap.size, 0, none⟩) 1 1 [a]) := HXl.out.below hB
  replace HYl : Hid (Lim w7 (some ⟨w1.heap.size + 1, 0, none⟩) 1 1 [b]) := HYl.out.below hB
  replace HX : Hid (Bd w7 (w1.heap.size + 1 + 1) 32 false (some ⟨w1.heap.size, 0, none⟩) 1 1 i) := HX.out.below hB
  replace HY : Hid (Bd w7 (w1.heap.size + 1 + 1 + 1) 32 false (some ⟨w1.heap.size + 1, 0, none⟩) 1 1 k) := HY.out.below hB
  replace HPl : Hid (Lim w7 Ap mp cp ps) := HPl.out.below hB
  replace HP : Hid (Bd w7 w2.heap.size 32 gp Ap mp cp Ep) := HP.out.below hB
  replace HLl : Hid (Lim w7 A3a m3a c3a s3a) := HLl.out.below hB
  replace HHl : Hid (Lim w7 A3b m3b c3b s3b) := HHl.out.below hB
  replace HIl : Hid (Ib w7 w3.heap.size g3a A3a m3a c3a e3a g3b A3b m3b c3b e3b) := HIl.out.below hB
  replace HLm : Hid (Lim w7 A4a m4a c4a s4a) := HLm.out.below hB
  replace HHm : Hid (Lim w7 A4b m4b c4b s4b) := HHm.out.below hB
  replace HIm : Hid (Ib w7 w4.heap.size g4a A4a m4a c4a e4a g4b A4b m4b c4b e4b) := HIm.out.below hB
  replace HLp : Hid (Lim w7 A5a m5a c5a s5a) := HLp.out.below hB
  replace HHp : Hid (Lim w7 A5b m5b c5b s5b) := HHp.out.below hB
  replace HIp : Hid (Ib w7 w5.heap.size g5a A5a m5a c5a e5a g5b A5b m5b c5b e5b) := HIp.out.below hB
  replace Hlol : Hid (Lim w7 A6 m6 c6 s6) := Hlol.out.below hB
  replace Hlo : Hid (Bd w7 w6.heap.size 32 g6 A6 m6 c6 e6) := Hlo.out.below hB
  replace HS := Lib.hid (HS.out.trans (hB.mono HS.out.size))
  have Hhil : Hid (Lim w7 A7 m7 c7 s7) := hl7
  have Hhiq : Hid (dhi = ⟨g7, val s7, e7⟩) := by show _ = _; rw [hg7, hV7, hE7]
  clear hl7 hb7 hg7 hV7 hE7 hB H4
  have ba := below1 w7 (.cells #[.bool g7, .slice A7 m7 c7, .int .i64 e7] 32)
  replace HT : Hid (Tab (w7.alloc (.cells #[.bool g7, .slice A7 m7 c7, .int .i64 e7] 32))) := HT.out.below ba
  replace HXl : Hid (Lim (w7.alloc (.cells #[.bool g7, .slice A7 m7 c7, .int .i64 e7] 32)) (some ⟨w1.heap.size, 0, none⟩) 1 1 [a]) := HXl.out.below ba
  replace HYl : Hid (Lim (w7.alloc (.cells #[.bool g7, .slice A7 m7 c7, .int .i64 e7] 32)) (some ⟨w1.heap.size + 1, 0, none⟩) 1 1 [b]) := HYl.out.below ba
  replace HX : Hid (Bd (w7.alloc (.cells #[.bool g7, .slice A7 m7 c7, .int .i64 e7] 32)) (w1.heap.size + 1 + 1) 32 false (some ⟨w1.heap.size, 0, none⟩) 1 1 i) := HX.out.below ba
  replace HY : Hid (Bd (w7.alloc (.cells #[.bool g7, .slice A7 m7 c7, .int .i64 e7] 32)) (w1.heap.size + 1 + 1 + 1) 32 false (some ⟨w1.heap.size + 1, 0, none⟩) 1 1 k) := HY.out.below ba
  replace HPl : Hid (Lim (w7.alloc (.cells #[.bool g7, .slice A7 m7 c7, .int .i64 e7] 32)) Ap mp cp ps) := HPl.out.below ba
  replace HP : Hid (Bd (w7.alloc (.cells #[.bool g7, .slice A7 m7 c7, .int .i64 e7] 32)) w2.heap.size 32 gp Ap mp cp Ep) := HP.out.below ba
  replace HLl : Hid (Lim (w7.alloc (.cells #[.bool g7, .slice A7 m7 c7, .int .i64 e7] 32)) A3a m3a c3a s3a) := HLl.out.below ba
  replace HHl : Hid (Lim (w7.alloc (.cells #[.bool g7, .slice A7 m7 c7, .int .i64 e7] 32)) A3b m3b c3b s3b) := HHl.out.below ba
  replace HIl : Hid (Ib (w7.alloc (.cells #[.bool g7, .slice A7 m7 c7, .int .i64 e7] 32)) w3.heap.size g3a A3a m3a c3a e3a g3b A3b m3b c3b e3b) := HIl.out.below ba
  replace HLm : Hid (Lim (w7.alloc (.cells #[.bool g7, .slice A7 m7 c7, .int .i64 e7] 32)) A4a m4a c4a s4a) := HLm.out.below ba
  replace HHm : Hid (Lim (w7.alloc (.cells #[.bool g7, .slice A7 m7 c7, .int .i64 e7] 32)) A4b m4b c4b s4b) := HHm.out.below ba
  replace HIm : Hid (Ib (w7.alloc (.cells #[.bool g7, .slice A7 m7 c7, .int .i64 e7] 32)) w4.heap.size g4a A4a m4a c4a e4a g4b A4b m4b c4b e4b) := HIm.out.below ba
  replace HLp : Hid (Lim (w7.alloc (.cells #[.bool g7, .slice A7 m7 c7, .int .i64 e7] 32)) A5a m5a c5a s5a) := HLp.out.below ba
  replace HHp : Hid (Lim (w7.alloc (.cells #[.bool g7, .slice A7 m7 c7, .int .i64 e7] 32)) A5b m5b c5b s5b) := HHp.out.below ba
  replace HIp : Hid (Ib (w7.alloc (.cells #[.bool g7, .slice A7 m7 c7, .int .i64 e7] 32)) w5.heap.size g5a A5a m5a c5a e5a g5b A5b m5b c5b e5b) := HIp.out.below ba
  replace Hlol : Hid (Lim (w7.alloc (.cells #[.bool g7, .slice A7 m7 c7, .int .i64 e7] 32)) A6 m6 c6 s6) := Hlol.out.below ba
  replace Hlo : Hid (Bd (w7.alloc (.cells #[.bool g7, .slice A7 m7 c7, .int .i64 e7] 32)) w6.heap.size 32 g6 A6 m6 c6 e6) := Hlo.out.below ba
  replace Hhil : Hid (Lim (w7.alloc (.cells #[.bool g7, .slice A7 m7 c7, .int .i64 e7] 32)) A7 m7 c7 s7) := Hhil.out.below ba
  replace HS := Lib.hid (HS.out.trans (ba.mono HS.out.size))
  clear ba
  have Hhi : Hid (Bd (w7.alloc (.cells #[.bool g7, .slice A7 m7 c7, .int .i64 e7] 32)) w7.heap.size 32 g7 A7 m7 c7 e7) := Bd.new w7 32 g7 A7 m7 c7 e7
  have Hlo_0 := Hlo.out.c0
  have Hlo_1 := Hlo.out.c1
  have Hlo_2 := Hlo.out.c2
  have HIp_0 := HIp.out.x0
  have HIp_1 := HIp.out.x1
  have HIp_2 := HIp.out.x2
  have HIp_3 := HIp.out.x3
  have HIp_4 := HIp.out.x4
  have HIp_5 := HIp.out.x5
  obtain ⟨va, hva⟩ : ∃ v, cmpI (Ll + Lm) (Up) = v := ⟨_, rfl⟩
  have cva : decide ((0 : Int) < va) = false := by rw [← hva]; exact decide_eq_false (by have := cmpI_down (show Ll + Lm ≤ Up by exact HRs.out.1); omega)
  have H5 := Lib.hid (dcmp_l va g6 A6 m6 c6 s6 e6 g5b A5b m5b c5b s5b e5b (w7.alloc (.cells #[.bool g7, .slice A7 m7 c7, .int .i64 e7] 32)) Hlol.out HHp.out (by omega) (by omega) HT.out (by show _ = _; rw [← hva]; have h := HLo.out.2; rw [Hloq.out] at h; exact un_cmp h HQp.out.2.2))
  clear hva
  go_wp2_with fail
  refine H5.out.mono ?_
  rintro e w8 ⟨rfl, hB⟩
  clear Hlo_0 Hlo_1 Hlo_2 HIp_0 HIp_1 HIp_2 HIp_3 HIp_4 HIp_5
  replace HT : Hid (Tab w8) := HT.out.below hB
  replace HXl : Hid (Lim w8 (some ⟨w1.heap.size, 0, none⟩) 1 1 [a]) := HXl.out.below hB
  replace HYl : Hid (Lim w8 (some ⟨w1.heap.size + 1, 0, none⟩) 1 1 [b]) := HYl.out.below hB
  replace HX : Hid (Bd w8 (w1.heap.size + 1 + 1) 32 false (some ⟨w1.heap.size, 0, none⟩) 1 1 i) := HX.out.below hB
  replace HY : Hid (Bd w8 (w1.heap.size + 1 + 1 + 1) 32 false (some ⟨w1.heap.size + 1, 0, none⟩) 1 1 k) := HY.out.below hB
  replace HPl : Hid (Lim w8 Ap mp cp ps) := HPl.out.below hB
  replace HP : Hid (Bd w8 w2.heap.size 32 gp Ap mp cp Ep) := HP.out.below hB
  replace HLl : Hid (Lim w8 A3a m3a c3a s3a) := HLl.out.below hB
  replace HHl : Hid (Lim w8 A3b m3b c3b s3b) := HHl.out.below hB
  replace HIl : Hid (Ib w8 w3.heap.size g3a A3a m3a c3a e3a g3b A3b m3b c3b e3b) := HIl.out.below hB
  replace HLm : Hid (Lim w8 A4a m4a c4a s4a) := HLm.out.below hB
  replace HHm : Hid (Lim w8 A4b m4b c4b s4b) := HHm.out.below hB
  replace HIm : Hid (Ib w8 w4.heap.size g4a A4a m4a c4a e4a g4b A4b m4b c4b e4b) := HIm.out.below hB
  replace HLp : Hid (Lim w8 A5a m5a c5a s5a) := HLp.out.below hB
  replace HHp : Hid (Lim w8 A5b m5b c5b s5b) := HHp.out.below hB
  replace HIp : Hid (Ib w8 w5.heap.size g5a A5a m5a c5a e5a g5b A5b m5b c5b e5b) := HIp.out.below hB
  replace Hlol : Hid (Lim w8 A6 m6 c6 s6) := Hlol.out.below hB
  replace Hlo : Hid (Bd w8 w6.heap.size 32 g6 A6 m6 c6 e6) := Hlo.out.below hB
  replace Hhil : Hid (Lim w8 A7 m7 c7 s7) := Hhil.out.below hB
  replace Hhi : Hid (Bd w8 w7.heap.size 32 g7 A7 m7 c7 e7) := Hhi.out.below hB
  replace HS := Lib.hid (HS.out.trans (hB.mono HS.out.size))
  clear hB H5
  have HIp_0 := HIp.out.x0
  have HIp_1 := HIp.out.x1
  have HIp_2 := HIp.out.x2
  have HIp_3 := HIp.out.x3
  have HIp_4 := HIp.out.x4
  have HIp_5 := HIp.out.x5
  have Hhi_0 := Hhi.out.c0
  have Hhi_1 := Hhi.out.c1
  have Hhi_2 := Hhi.out.c2
  obtain ⟨vb, hvb⟩ : ∃ v, cmpI (Lp) (Ul + Um) = v := ⟨_, rfl⟩
  have cvb : decide ((0 : Int) < vb) = false := by rw [← hvb]; exact decide_eq_false (by have := cmpI_down (show Lp ≤ Ul + Um by exact HRs.out.2); omega)
  have H5 := Lib.hid (dcmp_l vb g5a A5a m5a c5a s5a e5a g7 A7 m7 c7 s7 e7 w8 HLp.out Hhil.out (by omega) (by omega) HT.out (by show _ = _; rw [← hvb]; have h := HHi.out.2; rw [Hhiq.out] at h; exact un_cmp HQp.out.2.1 h))
  clear hvb
  go_wp2_with fail
  refine H5.out.mono ?_
  rintro e w9 ⟨rfl, hB⟩
  clear HIp_0 HIp_1 HIp_2 HIp_3 HIp_4 HIp_5 Hhi_0 Hhi_1 Hhi_2
  replace HT : Hid (Tab w9) := HT.out.below hB
  replace HXl : Hid (Lim w9 (some ⟨w1.heap.size, 0, none⟩) 1 1 [a]) := HXl.out.below hB
  replace HYl : Hid (Lim w9 (some ⟨w1.heap.size + 1, 0, none⟩) 1 1 [b]) := HYl.out.below hB
  replace HX : Hid (Bd w9 (w1.heap.size + 1 + 1) 32 false (some ⟨w1.heap.size, 0, none⟩) 1 1 i) := HX.out.below hB
  replace HY : Hid (Bd w9 (w1.heap.size + 1 + 1 + 1) 32 false (some ⟨w1.heap.size + 1, 0, none⟩) 1 1 k) := HY.out.below hB
  replace HPl : Hid (Lim w9 Ap mp cp ps) := HPl.out.below hB
  replace HP : Hid (Bd w9 w2.heap.size 32 gp Ap mp cp Ep) := HP.out.below hB
  replace HLl : Hid (Lim w9 A3a m3a c3a s3a) := HLl.out.below hB
  replace HHl : Hid (Lim w9 A3b m3b c3b s3b) := HHl.out.below hB
  replace HIl : Hid (Ib w9 w3.heap.size g3a A3a m3a c3a e3a g3b A3b m3b c3b e3b) := HIl.out.below hB
  replace HLm : Hid (Lim w9 A4a m4a c4a s4a) := HLm.out.below hB
  replace HHm : Hid (Lim w9 A4b m4b c4b s4b) := HHm.out.below hB
  replace HIm : Hid (Ib w9 w4.heap.size g4a A4a m4a c4a e4a g4b A4b m4b c4b e4b) := HIm.out.below hB
  replace HLp : Hid (Lim w9 A5a m5a c5a s5a) := HLp.out.below hB
  replace HHp : Hid (Lim w9 A5b m5b c5b s5b) := HHp.out.below hB
  replace HIp : Hid (Ib w9 w5.heap.size g5a A5a m5a c5a e5a g5b A5b m5b c5b e5b) := HIp.out.below hB
  replace Hlol : Hid (Lim w9 A6 m6 c6 s6) := Hlol.out.below hB
  replace Hlo : Hid (Bd w9 w6.heap.size 32 g6 A6 m6 c6 e6) := Hlo.out.below hB
  replace Hhil : Hid (Lim w9 A7 m7 c7 s7) := Hhil.out.below hB
  replace Hhi : Hid (Bd w9 w7.heap.size 32 g7 A7 m7 c7 e7) := Hhi.out.below hB
  replace HS := Lib.hid (HS.out.trans (hB.mono HS.out.size))
  clear hB H5
  clear Hlo Hhi Hlol Hhil HIp HLp HHp
  clear Hloq Hhiq HLo HHi HRs HQp HBp
  have HX_0 := HX.out.c0
  have HX_1 := HX.out.c1
  have HX_2 := HX.out.c2
  have HY_0 := HY.out.c0
  have HY_1 := HY.out.c1
  have HY_2 := HY.out.c2
  have H6 := Lib.hid (dcmp_l cc false (some ⟨w1.heap.size, 0, none⟩) 1 1 [a] i false (some ⟨w1.heap.size + 1, 0, none⟩) 1 1 [b] k w9 HXl.out HYl.out (by decide) (by decide) HT.out (by show _ = _; rw [lval_one, lval_one]; exact HC.out.1))
  go_wp2_with fail
  refine H6.out.mono ?_
  rintro e w10 ⟨rfl, hB⟩
  clear HX_0 HX_1 HX_2 HY_0 HY_1 HY_2
  replace HT : Hid (Tab w10) := HT.out.below hB
  replace HXl : Hid (Lim w10 (some ⟨w1.heap.size, 0, none⟩) 1 1 [a]) := HXl.out.below hB
  replace HYl : Hid (Lim w10 (some ⟨w1.heap.size + 1, 0, none⟩) 1 1 [b]) := HYl.out.below hB
  replace HX : Hid (Bd w10 (w1.heap.size + 1 + 1) 32 false (some ⟨w1.heap.size, 0, none⟩) 1 1 i) := HX.out.below hB
  replace HY : Hid (Bd w10 (w1.heap.size + 1 + 1 + 1) 32 false (some ⟨w1.heap.size + 1, 0, none⟩) 1 1 k) := HY.out.below hB
  replace HPl : Hid (Lim w10 Ap mp cp ps) := HPl.out.below hB
  replace HP : Hid (Bd w10 w2.heap.size 32 gp Ap mp cp Ep) := HP.out.below hB
  replace HLl : Hid (Lim w10 A3a m3a c3a s3a) := HLl.out.below hB
  replace HHl : Hid (Lim w10 A3b m3b c3b s3b) := HHl.out.below hB
  replace HIl : Hid (Ib w10 w3.heap.size g3a A3a m3a c3a e3a g3b A3b m3b c3b e3b) := HIl.out.below hB
  replace HLm : Hid (Lim w10 A4a m4a c4a s4a) := HLm.out.below hB
  replace HHm : Hid (Lim w10 A4b m4b c4b s4b) := HHm.out.below hB
  replace HIm : Hid (Ib w10 w4.heap.size g4a A4a m4a c4a e4a g4b A4b m4b c4b e4b) := HIm.out.below hB
  replace HS := Lib.hid (HS.out.trans (hB.mono HS.out.size))
  clear hB H6
  have d1 : decide (cc ≤ (0 : Int)) = true := decide_eq_true (by have := HC.out.2; omega)
  have d2 : decide ((0 : Int) ≤ cc) = true := decide_eq_true (by have := HC.out.2; omega)
  have HIl_0 := HIl.out.x0
  have HIl_1 := HIl.out.x1
  have HIl_2 := HIl.out.x2
  have HIl_3 := HIl.out.x3
  have HIl_4 := HIl.out.x4
  have HIl_5 := HIl.out.x5
  have HIm_0 := HIm.out.x0
  have HIm_1 := HIm.out.x1
  have HIm_2 := HIm.out.x2
  have HIm_3 := HIm.out.x3
  have HIm_4 := HIm.out.x4
  have HIm_5 := HIm.out.x5
  obtain ⟨vc, hvc⟩ : ∃ v, cmpI (Ll) (Um) = v := ⟨_, rfl⟩
  have cvc : decide ((0 : Int) < vc) = false := by rw [← hvc]; exact decide_eq_false (by have := cmpI_down (show Ll ≤ Um by exact rules_ord HD.out.2.1.1 HD.out.2.1.2.1 HQl.out.1 HQm.out.1 (by rw [HD.out.2.2.1.1, HD.out.2.2.1.2.1]; exact rat_of_cmp (by rw [HC.out.1]; have := HC.out.2; omega))); omega)
  have H5 := Lib.hid (dcmp_l vc g3a A3a m3a c3a s3a e3a g4b A4b m4b c4b s4b e4b w10 HLl.out HHm.out (by omega) (by omega) HT.out (by show _ = _; rw [← hvc]; exact un_cmp HQl.out.2.1 HQm.out.2.2))
  clear hvc
  go_wp2_with fail
  refine H5.out.mono ?_
  rintro e w11 ⟨rfl, hB⟩
  clear HIl_0 HIl_1 HIl_2 HIl_3 HIl_4 HIl_5 HIm_0 HIm_1 HIm_2 HIm_3 HIm_4 HIm_5
  replace HT : Hid (Tab w11) := HT.out.below hB
  replace HXl : Hid (Lim w11 (some ⟨w1.heap.size, 0, none⟩) 1 1 [a]) := HXl.out.below hB
  replace HYl : Hid (Lim w11 (some ⟨w1.heap.size + 1, 0, none⟩) 1 1 [b]) := HYl.out.below hB
  replace HX : Hid (Bd w11 (w1.heap.size + 1 + 1) 32 false (some ⟨w1.heap.size, 0, none⟩) 1 1 i) := HX.out.below hB
  replace HY : Hid (Bd w11 (w1.heap.size + 1 + 1 + 1) 32 false (some ⟨w1.heap.size + 1, 0, none⟩) 1 1 k) := HY.out.below hB
  replace HPl : Hid (Lim w11 Ap mp cp ps) := HPl.out.below hB
  replace HP : Hid (Bd w11 w2.heap.size 32 gp Ap mp cp Ep) := HP.out.below hB
  replace HLl : Hid (Lim w11 A3a m3a c3a s3a) := HLl.out.below hB
  replace HHl : Hid (Lim w11 A3b m3b c3b s3b) := HHl.out.below hB
  replace HIl : Hid (Ib w11 w3.heap.size g3a A3a m3a c3a e3a g3b A3b m3b c3b e3b) := HIl.out.below hB
  replace HLm : Hid (Lim w11 A4a m4a c4a s4a) := HLm.out.below hB
  replace HHm : Hid (Lim w11 A4b m4b c4b s4b) := HHm.out.below hB
  replace HIm : Hid (Ib w11 w4.heap.size g4a A4a m4a c4a e4a g4b A4b m4b c4b e4b) := HIm.out.below hB
  replace HS := Lib.hid (HS.out.trans (hB.mono HS.out.size))
  clear hB H5
  have HIm_0 := HIm.out.x0
  have HIm_1 := HIm.out.x1
  have HIm_2 := HIm.out.x2
  have HIm_3 := HIm.out.x3
  have HIm_4 := HIm.out.x4
  have HIm_5 := HIm.out.x5
  have HIl_0 := HIl.out.x0
  have HIl_1 := HIl.out.x1
  have HIl_2 := HIl.out.x2
  have HIl_3 := HIl.out.x3
  have HIl_4 := HIl.out.x4
  have HIl_5 := HIl.out.x5
  obtain ⟨vd, hvd⟩ : ∃ v, cmpI (Lm) (Ul) = v := ⟨_, rfl⟩
  have cvd : decide ((0 : Int) < vd) = false := by rw [← hvd]; exact decide_eq_false (by have := cmpI_down (show Lm ≤ Ul by exact rules_ord HD.out.2.1.2.1 HD.out.2.1.1 HQm.out.1 HQl.out.1 (by rw [HD.out.2.2.1.1, HD.out.2.2.1.2.1]; exact rat_of_cmp' (by rw [HC.out.1]; have := HC.out.2; omega))); omega)
  have H5 := Lib.hid (dcmp_l vd g4a A4a m4a c4a s4a e4a g3b A3b m3b c3b s3b e3b w11 HLm.out HHl.out (by omega) (by omega) HT.out (by show _ = _; rw [← hvd]; exact un_cmp HQm.out.2.1 HQl.out.2.2))
  clear hvd
  go_wp2_with fail
  refine H5.out.mono ?_
  rintro e w12 ⟨rfl, hB⟩
  clear HIm_0 HIm_1 HIm_2 HIm_3 HIm_4 HIm_5 HIl_0 HIl_1 HIl_2 HIl_3 HIl_4 HIl_5
  replace HT : Hid (Tab w12) := HT.out.below hB
  replace HXl : Hid (Lim w12 (some ⟨w1.heap.size, 0, none⟩) 1 1 [a]) := HXl.out.below hB
  replace HYl : Hid (Lim w12 (some ⟨w1.heap.size + 1, 0, none⟩) 1 1 [b]) := HYl.out.below hB
  replace HX : Hid (Bd w12 (w1.heap.size + 1 + 1) 32 false (some ⟨w1.heap.size, 0, none⟩) 1 1 i) := HX.out.below hB
  replace HY : Hid (Bd w12 (w1.heap.size + 1 + 1 + 1) 32 false (some ⟨w1.heap.size + 1, 0, none⟩) 1 1 k) := HY.out.below hB
  replace HPl : Hid (Lim w12 Ap mp cp ps) := HPl.out.below hB
  replace HP : Hid (Bd w12 w2.heap.size 32 gp Ap mp cp Ep) := HP.out.below hB
  replace HLl : Hid (Lim w12 A3a m3a c3a s3a) := HLl.out.below hB
  replace HHl : Hid (Lim w12 A3b m3b c3b s3b) := HHl.out.below hB
  replace HIl : Hid (Ib w12 w3.heap.size g3a A3a m3a c3a e3a g3b A3b m3b c3b e3b) := HIl.out.below hB
  replace HLm : Hid (Lim w12 A4a m4a c4a s4a) := HLm.out.below hB
  replace HHm : Hid (Lim w12 A4b m4b c4b s4b) := HHm.out.below hB
  replace HIm : Hid (Ib w12 w4.heap.size g4a A4a m4a c4a e4a g4b A4b m4b c4b e4b) := HIm.out.below hB
  replace HS := Lib.hid (HS.out.trans (hB.mono HS.out.size))
  clear hB H5
  clear HY HYl HIm HLm HHm
  clear HC HQm HBm
  have bd := below_drew w12
  replace HT : Hid (Tab w12.drew) := HT.out.below bd
  replace HXl : Hid (Lim w12.drew (some ⟨w1.heap.size, 0, none⟩) 1 1 [a]) := HXl.out.below bd
  replace HX : Hid (Bd w12.drew (w1.heap.size + 1 + 1) 32 false (some ⟨w1.heap.size, 0, none⟩) 1 1 i) := HX.out.below bd
  replace HPl : Hid (Lim w12.drew Ap mp cp ps) := HPl.out.below bd
  replace HP : Hid (Bd w12.drew w2.heap.size 32 gp Ap mp cp Ep) := HP.out.below bd
  replace HLl : Hid (Lim w12.drew A3a m3a c3a s3a) := HLl.out.below bd
  replace HHl : Hid (Lim w12.drew A3b m3b c3b s3b) := HHl.out.below bd
  replace HIl : Hid (Ib w12.drew w3.heap.size g3a A3a m3a c3a e3a g3b A3b m3b c3b e3b) := HIl.out.below bd
  replace HS := Lib.hid (HS.out.trans (bd.mono HS.out.size))
  clear bd
  have Ha : Hid (Calls Tryd.prog 21 #[.int .i64 1] w12.drew (Tells1 w12.drew false 1 1 0)) := dof_nat 1 (by decide) false 1 0 w12.drew HT.out rfl
  have K0 := Lib.hid (And.intro HX.out.c0 (And.intro HX.out.c1 HX.out.c2))
  go_wp2_with fail
  go_region_held3 (fun w' => w'.cell? ⟨w1.heap.size + 1 + 1, 0, none⟩ = some (.bool false) ∧ w'.cell? ⟨w1.heap.size + 1 + 1, 1, none⟩ = some (.slice (some ⟨w1.heap.size, 0, none⟩) 1 1) ∧ w'.cell? ⟨w1.heap.size + 1 + 1, 2, none⟩ = some (.int .i64 i)) (first | (with_reducible exact K0.out) | (with_reducible exact K1.out) | (with_reducible exact K2.out)) (first | (go_at_call 21; (with_reducible refine Ha.out.mono ?_); rintro e w13 ⟨A1o, m1o, c1o, s1o, rfl, hm1o, hl1o, hb1o, hv1o, hB2⟩; have k1 := HX.out.below hB2; have K1 := Lib.hid (And.intro k1.c0 (And.intro k1.c1 k1.c2)); have hc1 := dcmp_l oo false (some ⟨w1.heap.size, 0, none⟩) 1 1 [a] i false A1o m1o c1o s1o 0 w13 (HXl.out.below hB2) hl1o (by decide) (by omega) (HT.out.below hB2) (by show _ = _; rw [lval_one, hv1o]; exact HO.out); have Hc1 := Lib.hid hc1; have HB2 := Lib.hid hB2; clear hl1o hb1o hv1o hB2 hc1 k1) | (go_at_call 20; (with_reducible refine Hc1.out.mono ?_); rintro e w14 ⟨rfl, hB3⟩; have k2 := (HX.out.below HB2.out).below hB3; have K2 := Lib.hid (And.intro k2.c0 (And.intro k2.c1 k2.c2)); have HB3 := Lib.hid hB3; clear hB3 k2))
  all_goals (
    clear K0 K1 K2 Ha Hc1
    have bc := HB2.out.trans (HB3.out.mono HB2.out.size)
    replace HT : Hid (Tab w14) := HT.out.below bc
    replace HXl : Hid (Lim w14 (some ⟨w1.heap.size, 0, none⟩) 1 1 [a]) := HXl.out.below bc
    replace HX : Hid (Bd w14 (w1.heap.size + 1 + 1) 32 false (some ⟨w1.heap.size, 0, none⟩) 1 1 i) := HX.out.below bc
    replace HPl : Hid (Lim w14 Ap mp cp ps) := HPl.out.below bc
    replace HP : Hid (Bd w14 w2.heap.size 32 gp Ap mp cp Ep) := HP.out.below bc
    replace HLl : Hid (Lim w14 A3a m3a c3a s3a) := HLl.out.below bc
    replace HHl : Hid (Lim w14 A3b m3b c3b s3b) := HHl.out.below bc
    replace HIl : Hid (Ib w14 w3.heap.size g3a A3a m3a c3a e3a g3b A3b m3b c3b e3b) := HIl.out.below bc
    replace HS := Lib.hid (HS.out.trans (bc.mono HS.out.size))
    clear bc HB2 HB3
    rcases Int.lt_trichotomy oo 0 with ho | ho | ho
    · have d5 : decide (oo < (0 : Int)) = true := decide_eq_true (by omega)
      have d6 : decide ((0 : Int) < oo) = false := decide_eq_false (by omega)
      have HIl_0 := HIl.out.x0
      have HIl_1 := HIl.out.x1
      have HIl_2 := HIl.out.x2
      have HIl_3 := HIl.out.x3
      have HIl_4 := HIl.out.x4
      have HIl_5 := HIl.out.x5
      obtain ⟨vf, hvf⟩ : ∃ v, cmpI Ll 0 = v := ⟨_, rfl⟩
      have cvf : decide (vf ≤ (0 : Int)) = true := by rw [← hvf]; exact decide_eq_true (cmpI_down (rules_down HD.out.2.1.1 HQl.out.1 (by rw [HD.out.2.2.1.1, ← rat_one]; exact rat_of_cmp (by rw [HO.out]; omega))))
      have H7 := Lib.hid (sign_l vf g3a A3a m3a c3a s3a e3a w14 HLl.out (by omega) (by show _ = _; rw [← hvf]; exact un_sg HQl.out.2.1))
      clear hvf
      go_wp2_with fail
      refine H7.out.mono ?_
      rintro e w15 ⟨rfl, hB⟩
      clear HIl_0 HIl_1 HIl_2 HIl_3 HIl_4 HIl_5
      replace HT : Hid (Tab w15) := HT.out.below hB
      replace HXl : Hid (Lim w15 (some ⟨w1.heap.size, 0, none⟩) 1 1 [a]) := HXl.out.below hB
      replace HX : Hid (Bd w15 (w1.heap.size + 1 + 1) 32 false (some ⟨w1.heap.size, 0, none⟩) 1 1 i) := HX.out.below hB
      replace HPl : Hid (Lim w15 Ap mp cp ps) := HPl.out.below hB
      replace HP : Hid (Bd w15 w2.heap.size 32 gp Ap mp cp Ep) := HP.out.below hB
      replace HLl : Hid (Lim w15 A3a m3a c3a s3a) := HLl.out.below hB
      replace HHl : Hid (Lim w15 A3b m3b c3b s3b) := HHl.out.below hB
      replace HIl : Hid (Ib w15 w3.heap.size g3a A3a m3a c3a e3a g3b A3b m3b c3b e3b) := HIl.out.below hB
      replace HS := Lib.hid (HS.out.trans (hB.mono HS.out.size))
      clear hB H7
      have HP_0 := HP.out.c0
      have HP_1 := HP.out.c1
      have HP_2 := HP.out.c2
      obtain ⟨bp, hbp⟩ : ∃ b, blen (val ps) = b := ⟨_, rfl⟩
      have hbp0 : 0 < bp := by rw [← hbp]; exact blen_pos (by rw [HPv.out.2]; exact HD.out.2.2.2.2.2)
      have d7 : decide ((0 : Int) < (bp : Int)) = true := decide_eq_true (by omega)
      have d8 : decide (0 < bp) = true := decide_eq_true hbp0
      have H8 := Lib.hid (bits_l bp Ap mp cp ps w15 HPl.out (by omega) hbp)
      clear hbp hbp0 ho
      go_wp2_with fail
      refine H8.out.mono ?_
      rintro e w' ⟨rfl, rfl⟩
      have Hfin := Lib.hid HS.out
      clear HP_0 HP_1 HP_2
      clear H8 HS HD HO HQl HBl HPv HT HXl HX HPl HP HLl HHl HIl
      go_wp2
      go_ret
      exact ⟨rfl, Hfin.out⟩
    · have d5 : decide (oo < (0 : Int)) = false := decide_eq_false (by omega)
      have d6 : decide ((0 : Int) < oo) = false := decide_eq_false (by omega)
      have HIl_0 := HIl.out.x0
      have HIl_1 := HIl.out.x1
      have HIl_2 := HIl.out.x2
      have HIl_3 := HIl.out.x3
      have HIl_4 := HIl.out.x4
      have HIl_5 := HIl.out.x5
      obtain ⟨ve, hve⟩ : ∃ v, cmpI Ul 0 = v := ⟨_, rfl⟩
      have cve : decide ((0 : Int) ≤ ve) = true := by rw [← hve]; exact decide_eq_true (cmpI_up (rules_up HD.out.2.1.1 HQl.out.1 (by rw [HD.out.2.2.1.1, ← rat_one]; exact rat_of_cmp' (by rw [HO.out]; omega))))
      have H7 := Lib.hid (sign_l ve g3b A3b m3b c3b s3b e3b w14 HHl.out (by omega) (by show _ = _; rw [← hve]; exact un_sg HQl.out.2.2))
      clear hve
      go_wp2_with fail
      refine H7.out.mono ?_
      rintro e w15 ⟨rfl, hB⟩
      clear HIl_0 HIl_1 HIl_2 HIl_3 HIl_4 HIl_5
      replace HT : Hid (Tab w15) := HT.out.below hB
      replace HXl : Hid (Lim w15 (some ⟨w1.heap.size, 0, none⟩) 1 1 [a]) := HXl.out.below hB
      replace HX : Hid (Bd w15 (w1.heap.size + 1 + 1) 32 false (some ⟨w1.heap.size, 0, none⟩) 1 1 i) := HX.out.below hB
      replace HPl : Hid (Lim w15 Ap mp cp ps) := HPl.out.below hB
      replace HP : Hid (Bd w15 w2.heap.size 32 gp Ap mp cp Ep) := HP.out.below hB
      replace HLl : Hid (Lim w15 A3a m3a c3a s3a) := HLl.out.below hB
      replace HHl : Hid (Lim w15 A3b m3b c3b s3b) := HHl.out.below hB
      replace HIl : Hid (Ib w15 w3.heap.size g3a A3a m3a c3a e3a g3b A3b m3b c3b e3b) := HIl.out.below hB
      replace HS := Lib.hid (HS.out.trans (hB.mono HS.out.size))
      clear hB H7
      have HIl_0 := HIl.out.x0
      have HIl_1 := HIl.out.x1
      have HIl_2 := HIl.out.x2
      have HIl_3 := HIl.out.x3
      have HIl_4 := HIl.out.x4
      have HIl_5 := HIl.out.x5
      obtain ⟨vf, hvf⟩ : ∃ v, cmpI Ll 0 = v := ⟨_, rfl⟩
      have cvf : decide (vf ≤ (0 : Int)) = true := by rw [← hvf]; exact decide_eq_true (cmpI_down (rules_down HD.out.2.1.1 HQl.out.1 (by rw [HD.out.2.2.1.1, ← rat_one]; exact rat_of_cmp (by rw [HO.out]; omega))))
      have H7 := Lib.hid (sign_l vf g3a A3a m3a c3a s3a e3a w15 HLl.out (by omega) (by show _ = _; rw [← hvf]; exact un_sg HQl.out.2.1))
      clear hvf
      go_wp2_with fail
      refine H7.out.mono ?_
      rintro e w16 ⟨rfl, hB⟩
      clear HIl_0 HIl_1 HIl_2 HIl_3 HIl_4 HIl_5
      replace HT : Hid (Tab w16) := HT.out.below hB
      replace HXl : Hid (Lim w16 (some ⟨w1.heap.size, 0, none⟩) 1 1 [a]) := HXl.out.below hB
      replace HX : Hid (Bd w16 (w1.heap.size + 1 + 1) 32 false (some ⟨w1.heap.size, 0, none⟩) 1 1 i) := HX.out.below hB
      replace HPl : Hid (Lim w16 Ap mp cp ps) := HPl.out.below hB
      replace HP : Hid (Bd w16 w2.heap.size 32 gp Ap mp cp Ep) := HP.out.below hB
      replace HLl : Hid (Lim w16 A3a m3a c3a s3a) := HLl.out.below hB
      replace HHl : Hid (Lim w16 A3b m3b c3b s3b) := HHl.out.below hB
      replace HIl : Hid (Ib w16 w3.heap.size g3a A3a m3a c3a e3a g3b A3b m3b c3b e3b) := HIl.out.below hB
      replace HS := Lib.hid (HS.out.trans (hB.mono HS.out.size))
      clear hB H7
      have HP_0 := HP.out.c0
      have HP_1 := HP.out.c1
      have HP_2 := HP.out.c2
      obtain ⟨bp, hbp⟩ : ∃ b, blen (val ps) = b := ⟨_, rfl⟩
      have hbp0 : 0 < bp := by rw [← hbp]; exact blen_pos (by rw [HPv.out.2]; exact HD.out.2.2.2.2.2)
      have d7 : decide ((0 : Int) < (bp : Int)) = true := decide_eq_true (by omega)
      have d8 : decide (0 < bp) = true := decide_eq_true hbp0
      have H8 := Lib.hid (bits_l bp Ap mp cp ps w16 HPl.out (by omega) hbp)
      clear hbp hbp0 ho
      go_wp2_with fail
      refine H8.out.mono ?_
      rintro e w' ⟨rfl, rfl⟩
      have Hfin := Lib.hid HS.out
      clear HP_0 HP_1 HP_2
      clear H8 HS HD HO HQl HBl HPv HT HXl HX HPl HP HLl HHl HIl
      go_wp2
      go_ret
      exact ⟨rfl, Hfin.out⟩
    · have d5 : decide (oo < (0 : Int)) = false := decide_eq_false (by omega)
      have d6 : decide ((0 : Int) < oo) = true := decide_eq_true (by omega)
      have HIl_0 := HIl.out.x0
      have HIl_1 := HIl.out.x1
      have HIl_2 := HIl.out.x2
      have HIl_3 := HIl.out.x3
      have HIl_4 := HIl.out.x4
      have HIl_5 := HIl.out.x5
      obtain ⟨ve, hve⟩ : ∃ v, cmpI Ul 0 = v := ⟨_, rfl⟩
      have cve : decide ((0 : Int) ≤ ve) = true := by rw [← hve]; exact decide_eq_true (cmpI_up (rules_up HD.out.2.1.1 HQl.out.1 (by rw [HD.out.2.2.1.1, ← rat_one]; exact rat_of_cmp' (by rw [HO.out]; omega))))
      have H7 := Lib.hid (sign_l ve g3b A3b m3b c3b s3b e3b w14 HHl.out (by omega) (by show _ = _; rw [← hve]; exact un_sg HQl.out.2.2))
      clear hve
      go_wp2_with fail
      refine H7.out.mono ?_
      rintro e w15 ⟨rfl, hB⟩
      clear HIl_0 HIl_1 HIl_2 HIl_3 HIl_4 HIl_5
      replace HT : Hid (Tab w15) := HT.out.below hB
      replace HXl : Hid (Lim w15 (some ⟨w1.heap.size, 0, none⟩) 1 1 [a]) := HXl.out.below hB
      replace HX : Hid (Bd w15 (w1.heap.size + 1 + 1) 32 false (some ⟨w1.heap.size, 0, none⟩) 1 1 i) := HX.out.below hB
      replace HPl : Hid (Lim w15 Ap mp cp ps) := HPl.out.below hB
      replace HP : Hid (Bd w15 w2.heap.size 32 gp Ap mp cp Ep) := HP.out.below hB
      replace HLl : Hid (Lim w15 A3a m3a c3a s3a) := HLl.out.below hB
      replace HHl : Hid (Lim w15 A3b m3b c3b s3b) := HHl.out.below hB
      replace HIl : Hid (Ib w15 w3.heap.size g3a A3a m3a c3a e3a g3b A3b m3b c3b e3b) := HIl.out.below hB
      replace HS := Lib.hid (HS.out.trans (hB.mono HS.out.size))
      clear hB H7
      have HP_0 := HP.out.c0
      have HP_1 := HP.out.c1
      have HP_2 := HP.out.c2
      obtain ⟨bp, hbp⟩ : ∃ b, blen (val ps) = b := ⟨_, rfl⟩
      have hbp0 : 0 < bp := by rw [← hbp]; exact blen_pos (by rw [HPv.out.2]; exact HD.out.2.2.2.2.2)
      have d7 : decide ((0 : Int) < (bp : Int)) = true := decide_eq_true (by omega)
      have d8 : decide (0 < bp) = true := decide_eq_true hbp0
      have H8 := Lib.hid (bits_l bp Ap mp cp ps w15 HPl.out (by omega) hbp)
      clear hbp hbp0 ho
      go_wp2_with fail
      refine H8.out.mono ?_
      rintro e w' ⟨rfl, rfl⟩
      have Hfin := Lib.hid HS.out
      clear HP_0 HP_1 HP_2
      clear H8 HS HD HO HQl HBl HPv HT HXl HX HPl HP HLl HHl HIl
      go_wp2
      go_ret
      exact ⟨rfl, Hfin.out⟩)

set_option maxHeartbeats 8000000 in
set_option maxRecDepth 20000 in
theorem lrules_gt (a b s : Nat) (i k : Int) (w : World) (hT : Tab w) (ha : a < 18446744073709551616) (hb : b < 18446744073709551616) (ha0 : a ≠ 0) (hb0 : b ≠ 0) (hi1 : -128 ≤ i) (hi2 : i ≤ 127) (hk1 : -128 ≤ k) (hk2 : k ≤ 127) (hs : s ≤ 255) (hc : 0 < cmpI (dw false a i) (dw false b k)) :
    Calls Tryd.prog 4 #[.int .u64 (a : Int), .int .u64 (b : Int), .int .i8 i, .int .i8 k, .int .u8 (s : Int)] w fun e w' => e = .returned (.bool true) ∧ Below w.heap.size w w' := by
  obtain ⟨dx, dy, dp, mx, my, mp, lx, ly, rx, ry, np, dq, mq, lq, pq, rq⟩ := prod_of ha0 hb0 ha hb (show -1000 ≤ i by omega) (show i ≤ 1000 by omega) (show -1000 ≤ k by omega) (show k ≤ 1000 by omega)
  have H1 := Lib.hid (lalive_any w hT)
  have HT := Lib.hid hT
  have HS := Lib.hid (Below.refl w.heap.size w)
  have HD : Hid ((mk false a i = some dx ∧ mk false b k = some dy ∧ mulO (mk false a i) (mk false b k) = some dp) ∧ (LogD dx ∧ LogD dy ∧ LogD dq) ∧ (rat false dx.V dx.e = rat false a i ∧ rat false dy.V dy.e = rat false b k ∧ rat false dq.V dq.e = rat false dx.V dx.e * rat false dy.V dy.e) ∧ dp.neg = false ∧ mk false dp.V dp.e = some dq ∧ dp.V ≠ 0) := ⟨⟨mx, my, mp⟩, ⟨lx, ly, lq⟩, ⟨rx, ry, rq⟩, np, mq, pq⟩
  have b0 : ((a : Int) == 0) = false := beq_no (by omega)
  have b1 : ((b : Int) == 0) = false := beq_no (by omega)
  obtain ⟨z, hz⟩ : ∃ z, 16 + s = z := ⟨_, rfl⟩
  have ez : (16 : Int) + (s : Int) = (z : Int) := by omega
  have hz9 : z ≤ 271 := by omega
  have hz8 : 16 ≤ z := by omega
  obtain ⟨cc, hcc⟩ : ∃ c, cmpI (dw false a i) (dw false b k) = c := ⟨_, rfl⟩
  have HC : Hid (cmpI (dw false a i) (dw false b k) = cc ∧ 0 < cc) := ⟨hcc, by rw [← hcc]; exact hc⟩
  obtain ⟨oo, hoo⟩ : ∃ c, cmpI (dw false a i) (dw false 1 0) = c := ⟨_, rfl⟩
  have HO := Lib.hid hoo
  have h4 := four_laid
  have HAB : Hid (a < 18446744073709551616 ∧ b < 18446744073709551616) := ⟨ha, hb⟩
  clear hT mx my mp lx ly rx ry np mq lq pq rq hz hcc hc hoo ha0 hb0 h4
  go_enter Tryd.func4, Tryd.ntmps4
  go_wp2_with fail
  refine H1.out.mono ?_
  rintro e w1 ⟨rfl, hB⟩
  replace HT : Hid (Tab w1) := HT.out.below hB
  replace HS := Lib.hid (HS.out.trans (hB.mono HS.out.size))
  clear hB H1
  have f4 := four_laid w1 a b i k HAB.out.1 HAB.out.2
  replace HT : Hid (Tab ((((w1.alloc (.cells #[.int .u64 (a : Int)] 40)).alloc (.cells #[.int .u64 (b : Int)] 40)).alloc (.cells #[.bool false, .slice (some ⟨w1.heap.size, 0, none⟩) 1 1, .int .i64 i] 32)).alloc (.cells #[.bool false, .slice (some ⟨w1.heap.size + 1, 0, none⟩) 1 1, .int .i64 k] 32))) := HT.out.below f4.1
  replace HS := Lib.hid (HS.out.trans (f4.1.mono HS.out.size))
  have HXl : Hid (Lim ((((w1.alloc (.cells #[.int .u64 (a : Int)] 40)).alloc (.cells #[.int .u64 (b : Int)] 40)).alloc (.cells #[.bool false, .slice (some ⟨w1.heap.size, 0, none⟩) 1 1, .int .i64 i] 32)).alloc (.cells #[.bool false, .slice (some ⟨w1.heap.size + 1, 0, none⟩) 1 1, .int .i64 k] 32)) (some ⟨w1.heap.size, 0, none⟩) 1 1 [a]) := f4.2.1
  have HYl : Hid (Lim ((((w1.alloc (.cells #[.int .u64 (a : Int)] 40)).alloc (.cells #[.int .u64 (b : Int)] 40)).alloc (.cells #[.bool false, .slice (some ⟨w1.heap.size, 0, none⟩) 1 1, .int .i64 i] 32)).alloc (.cells #[.bool false, .slice (some ⟨w1.heap.size + 1, 0, none⟩) 1 1, .int .i64 k] 32)) (some ⟨w1.heap.size + 1, 0, none⟩) 1 1 [b]) := f4.2.2.1
  have HX : Hid (Bd ((((w1.alloc (.cells #[.int .u64 (a : Int)] 40)).alloc (.cells #[.int .u64 (b : Int)] 40)).alloc (.cells #[.bool false, .slice (some ⟨w1.heap.size, 0, none⟩) 1 1, .int .i64 i] 32)).alloc (.cells #[.bool false, .slice (some ⟨w1.heap.size + 1, 0, none⟩) 1 1, .int .i64 k] 32)) (w1.heap.size + 1 + 1) 32 false (some ⟨w1.heap.size, 0, none⟩) 1 1 i) := f4.2.2.2.1
  have HY : Hid (Bd ((((w1.alloc (.cells #[.int .u64 (a : Int)] 40)).alloc (.cells #[.int .u64 (b : Int)] 40)).alloc (.cells #[.bool false, .slice (some ⟨w1.heap.size, 0, none⟩) 1 1, .int .i64 i] 32)).alloc (.cells #[.bool false, .slice (some ⟨w1.heap.size + 1, 0, none⟩) 1 1, .int .i64 k] 32)) (w1.heap.size + 1 + 1 + 1) 32 false (some ⟨w1.heap.size + 1, 0, none⟩) 1 1 k) := f4.2.2.2.2
  clear f4 HAB
  have H2 := Lib.hid (dmul_any (some dp) false (some ⟨w1.heap.size, 0, none⟩) 1 1 [a] i false (some ⟨w1.heap.size + 1, 0, none⟩) 1 1 [b] k ((((w1.alloc (.cells #[.int .u64 (a : Int)] 40)).alloc (.cells #[.int .u64 (b : Int)] 40)).alloc (.cells #[.bool false, .slice (some ⟨w1.heap.size, 0, none⟩) 1 1, .int .i64 i] 32)).alloc (.cells #[.bool false, .slice (some ⟨w1.heap.size + 1, 0, none⟩) 1 1, .int .i64 k] 32)) HXl.out HYl.out (by decide) (by decide) HT.out (by show _ = _; rw [lval_one, lval_one]; exact HD.out.1.2.2))
  have HX_0 := HX.out.c0
  have HX_1 := HX.out.c1
  have HX_2 := HX.out.c2
  have HY_0 := HY.out.c0
  have HY_1 := HY.out.c1
  have HY_2 := HY.out.c2
  go_wp2_with fail
  refine H2.out.mono ?_
  rintro e w2 ⟨gp, Ap, mp, cp, ps, Ep, rp, rfl, hmp, hlp, hbp, ⟨rfl, hgp, hVp, hEp⟩, hB⟩
  clear HX_0 HX_1 HX_2 HY_0 HY_1 HY_2
  replace HT : Hid (Tab w2) := HT.out.below hB
  replace HXl : Hid (Lim w2 (some ⟨w1.heap.size, 0, none⟩) 1 1 [a]) := HXl.out.below hB
  replace HYl : Hid (Lim w2 (some ⟨w1.heap.size + 1, 0, none⟩) 1 1 [b]) := HYl.out.below hB
  replace HX : Hid (Bd w2 (w1.heap.size + 1 + 1) 32 false (some ⟨w1.heap.size, 0, none⟩) 1 1 i) := HX.out.below hB
  replace HY : Hid (Bd w2 (w1.heap.size + 1 + 1 + 1) 32 false (some ⟨w1.heap.size + 1, 0, none⟩) 1 1 k) := HY.out.below hB
  replace HS := Lib.hid (HS.out.trans (hB.mono HS.out.size))
  obtain ⟨pgx, pV, pEx⟩ := dp
  dsimp only at *
  subst hgp hEp
  have HPl : Hid (Lim w2 Ap mp cp ps) := hlp
  have HPv : Hid (Bare ps ∧ val ps = pV) := ⟨hbp, hVp⟩
  clear hlp hbp hVp hB H2
  have ba := below1 w2 (.cells #[.bool gp, .slice Ap mp cp, .int .i64 Ep] 32)
  replace HT : Hid (Tab (w2.alloc (.cells #[.bool gp, .slice Ap mp cp, .int .i64 Ep] 32))) := HT.out.below ba
  replace HXl : Hid (Lim (w2.alloc (.cells #[.bool gp, .slice Ap mp cp, .int .i64 Ep] 32)) (some ⟨w1.heap.size, 0, none⟩) 1 1 [a]) := HXl.out.below ba
  replace HYl : Hid (Lim (w2.alloc (.cells #[.bool gp, .slice Ap mp cp, .int .i64 Ep] 32)) (some ⟨w1.heap.size + 1, 0, none⟩) 1 1 [b]) := HYl.out.below ba
  replace HX : Hid (Bd (w2.alloc (.cells #[.bool gp, .slice Ap mp cp, .int .i64 Ep] 32)) (w1.heap.size + 1 + 1) 32 false (some ⟨w1.heap.size, 0, none⟩) 1 1 i) := HX.out.below ba
  replace HY : Hid (Bd (w2.alloc (.cells #[.bool gp, .slice Ap mp cp, .int .i64 Ep] 32)) (w1.heap.size + 1 + 1 + 1) 32 false (some ⟨w1.heap.size + 1, 0, none⟩) 1 1 k) := HY.out.below ba
  replace HPl : Hid (Lim (w2.alloc (.cells #[.bool gp, .slice Ap mp cp, .int .i64 Ep] 32)) Ap mp cp ps) := HPl.out.below ba
  replace HS := Lib.hid (HS.out.trans (ba.mono HS.out.size))
  clear ba
  have HP : Hid (Bd (w2.alloc (.cells #[.bool gp, .slice Ap mp cp, .int .i64 Ep] 32)) w2.heap.size 32 gp Ap mp cp Ep) := Bd.new w2 32 gp Ap mp cp Ep
  have HX_0 := HX.out.c0
  have HX_1 := HX.out.c1
  have HX_2 := HX.out.c2
  have H3 := log_lg false (some ⟨w1.heap.size, 0, none⟩) 1 1 [a] i (z : Int) (w2.alloc (.cells #[.bool gp, .slice Ap mp cp, .int .i64 Ep] 32)) HXl.out (by omega) HT.out (by omega) (by omega)
  rw [lval_one] at H3
  replace H3 := Lib.hid H3
  go_wp2_with fail
  refine H3.out.mono ?_
  rintro e w3 ⟨g3a, A3a, m3a, c3a, s3a, e3a, g3b, A3b, m3b, c3b, s3b, e3b, r3, rfl, hm3a, hm3b, hl3a, hl3b, hb3a, hb3b, hB, hq⟩
  clear HX_0 HX_1 HX_2
  replace HT : Hid (Tab w3) := HT.out.below hB
  replace HXl : Hid (Lim w3 (some ⟨w1.heap.size, 0, none⟩) 1 1 [a]) := HXl.out.below hB
  replace HYl : Hid (Lim w3 (some ⟨w1.heap.size + 1, 0, none⟩) 1 1 [b]) := HYl.out.below hB
  replace HX : Hid (Bd w3 (w1.heap.size + 1 + 1) 32 false (some ⟨w1.heap.size, 0, none⟩) 1 1 i) := HX.out.below hB
  replace HY : Hid (Bd w3 (w1.heap.size + 1 + 1 + 1) 32 false (some ⟨w1.heap.size + 1, 0, none⟩) 1 1 k) := HY.out.below hB
  replace HPl : Hid (Lim w3 Ap mp cp ps) := HPl.out.below hB
  replace HP : Hid (Bd w3 w2.heap.size 32 gp Ap mp cp Ep) := HP.out.below hB
  replace HS := Lib.hid (HS.out.trans (hB.mono HS.out.size))
  have HLl : Hid (Lim w3 A3a m3a c3a s3a) := hl3a
  have HHl : Hid (Lim w3 A3b m3b c3b s3b) := hl3b
  have HBl : Hid (Bare s3a ∧ Bare s3b) := ⟨hb3a, hb3b⟩
  obtain ⟨rfl, Ll, Ul, hVl, hLl, hUl⟩ := logp_yes hq HD.out.1.1 HD.out.2.1.1 (by omega) (by omega)
  rw [Int.toNat_natCast] at hVl hLl hUl
  have HQl : Hid (LogV dx z Ll Ul ∧ Un z Ll ⟨g3a, val s3a, e3a⟩ ∧ Un z Ul ⟨g3b, val s3b, e3b⟩) := ⟨hVl, hLl, hUl⟩
  clear hVl hLl hUl
  clear hl3a hl3b hb3a hb3b hB hq H3
  have ba := below1 w3 (.cells #[.bool g3a, .slice A3a m3a c3a, .int .i64 e3a, .bool g3b, .slice A3b m3b c3b, .int .i64 e3b] 47)
  replace HT : Hid (Tab (w3.alloc (.cells #[.bool g3a, .slice A3a m3a c3a, .int .i64 e3a, .bool g3b, .slice A3b m3b c3b, .int .i64 e3b] 47))) := HT.out.below ba
  replace HXl : Hid (Lim (w3.alloc (.cells #[.bool g3a, .slice A3a m3a c3a, .int .i64 e3a, .bool g3b, .slice A3b m3b c3b, .int .i64 e3b] 47)) (some ⟨w1.heap.size, 0, none⟩) 1 1 [a]) := HXl.out.below ba
  replace HYl : Hid (Lim (w3.alloc (.cells #[.bool g3a, .slice A3a m3a c3a, .int .i64 e3a, .bool g3b, .slice A3b m3b c3b, .int .i64 e3b] 47)) (some ⟨w1.heap.size + 1, 0, none⟩) 1 1 [b]) := HYl.out.below ba
  replace HX : Hid (Bd (w3.alloc (.cells #[.bool g3a, .slice A3a m3a c3a, .int .i64 e3a, .bool g3b, .slice A3b m3b c3b, .int .i64 e3b] 47)) (w1.heap.size + 1 + 1) 32 false (some ⟨w1.heap.size, 0, none⟩) 1 1 i) := HX.out.below ba
  replace HY : Hid (Bd (w3.alloc (.cells #[.bool g3a, .slice A3a m3a c3a, .int .i64 e3a, .bool g3b, .slice A3b m3b c3b, .int .i64 e3b] 47)) (w1.heap.size + 1 + 1 + 1) 32 false (some ⟨w1.heap.size + 1, 0, none⟩) 1 1 k) := HY.out.below ba
  replace HPl : Hid (Lim (w3.alloc (.cells #[.bool g3a, .slice A3a m3a c3a, .int .i64 e3a, .bool g3b, .slice A3b m3b c3b, .int .i64 e3b] 47)) Ap mp cp ps) := HPl.out.below ba
  replace HP : Hid (Bd (w3.alloc (.cells #[.bool g3a, .slice A3a m3a c3a, .int .i64 e3a, .bool g3b, .slice A3b m3b c3b, .int .i64 e3b] 47)) w2.heap.size 32 gp Ap mp cp Ep) := HP.out.below ba
  replace HLl : Hid (Lim (w3.alloc (.cells #[.bool g3a, .slice A3a m3a c3a, .int .i64 e3a, .bool g3b, .slice A3b m3b c3b, .int .i64 e3b] 47)) A3a m3a c3a s3a) := HLl.out.below ba
  replace HHl : Hid (Lim (w3.alloc (.cells #[.bool g3a, .slice A3a m3a c3a, .int .i64 e3a, .bool g3b, .slice A3b m3b c3b, .int .i64 e3b] 47)) A3b m3b c3b s3b) := HHl.out.below ba
  replace HS := Lib.hid (HS.out.trans (ba.mono HS.out.size))
  clear ba
  have HIl : Hid (Ib (w3.alloc (.cells #[.bool g3a, .slice A3a m3a c3a, .int .i64 e3a, .bool g3b, .slice A3b m3b c3b, .int .i64 e3b] 47)) w3.heap.size g3a A3a m3a c3a e3a g3b A3b m3b c3b e3b) := Ib.new w3 g3a A3a m3a c3a e3a g3b A3b m3b c3b e3b
  have HY_0 := HY.out.c0
  have HY_1 := HY.out.c1
  have HY_2 := HY.out.c2
  have H3 := log_lg false (some ⟨w1.heap.size + 1, 0, none⟩) 1 1 [b] k (z : Int) (w3.alloc (.cells #[.bool g3a, .slice A3a m3a c3a, .int .i64 e3a, .bool g3b, .slice A3b m3b c3b, .int .i64 e3b] 47)) HYl.out (by omega) HT.out (by omega) (by omega)
  rw [lval_one] at H3
  replace H3 := Lib.hid H3
  go_wp2_with fail
  refine H3.out.mono ?_
  rintro e w4 ⟨g4a, A4a, m4a, c4a, s4a, e4a, g4b, A4b, m4b, c4b, s4b, e4b, r4, rfl, hm4a, hm4b, hl4a, hl4b, hb4a, hb4b, hB, hq⟩
  clear HY_0 HY_1 HY_2
  replace HT : Hid (Tab w4) := HT.out.below hB
  replace HXl : Hid (Lim w4 (some ⟨w1.heap.size, 0, none⟩) 1 1 [a]) := HXl.out.below hB
  replace HYl : Hid (Lim w4 (some ⟨w1.heap.size + 1, 0, none⟩) 1 1 [b]) := HYl.out.below hB
  replace HX : Hid (Bd w4 (w1.heap.size + 1 + 1) 32 false (some ⟨w1.heap.size, 0, none⟩) 1 1 i) := HX.out.below hB
  replace HY : Hid (Bd w4 (w1.heap.size + 1 + 1 + 1) 32 false (some ⟨w1.heap.size + 1, 0, none⟩) 1 1 k) := HY.out.below hB
  replace HPl : Hid (Lim w4 Ap mp cp ps) := HPl.out.below hB
  replace HP : Hid (Bd w4 w2.heap.size 32 gp Ap mp cp Ep) := HP.out.below hB
  replace HLl : Hid (Lim w4 A3a m3a c3a s3a) := HLl.out.below hB
  replace HHl : Hid (Lim w4 A3b m3b c3b s3b) := HHl.out.below hB
  replace HIl : Hid (Ib w4 w3.heap.size g3a A3a m3a c3a e3a g3b A3b m3b c3b e3b) := HIl.out.below hB
  replace HS := Lib.hid (HS.out.trans (hB.mono HS.out.size))
  have HLm : Hid (Lim w4 A4a m4a c4a s4a) := hl4a
  have HHm : Hid (Lim w4 A4b m4b c4b s4b) := hl4b
  have HBm : Hid (Bare s4a ∧ Bare s4b) := ⟨hb4a, hb4b⟩
  obtain ⟨rfl, Lm, Um, hVm, hLm, hUm⟩ := logp_yes hq HD.out.1.2.1 HD.out.2.1.2.1 (by omega) (by omega)
  rw [Int.toNat_natCast] at hVm hLm hUm
  have HQm : Hid (LogV dy z Lm Um ∧ Un z Lm ⟨g4a, val s4a, e4a⟩ ∧ Un z Um ⟨g4b, val s4b, e4b⟩) := ⟨hVm, hLm, hUm⟩
  clear hVm hLm hUm
  clear hl4a hl4b hb4a hb4b hB hq H3
  have ba := below1 w4 (.cells #[.bool g4a, .slice A4a m4a c4a, .int .i64 e4a, .bool g4b, .slice A4b m4b c4b, .int .i64 e4b] 47)
  replace HT : Hid (Tab (w4.alloc (.cells #[.bool g4a, .slice A4a m4a c4a, .int .i64 e4a, .bool g4b, .slice A4b m4b c4b, .int .i64 e4b] 47))) := HT.out.below ba
  replace HXl : Hid (Lim (w4.alloc (.cells #[.bool g4a, .slice A4a m4a c4a, .int .i64 e4a, .bool g4b, .slice A4b m4b c4b, .int .i64 e4b] 47)) (some ⟨w1.heap.size, 0, none⟩) 1 1 [a]) := HXl.out.below ba
  replace HYl : Hid (Lim (w4.alloc (.cells #[.bool g4a, .slice A4a m4a c4a, .int .i64 e4a, .bool g4b, .slice A4b m4b c4b, .int .i64 e4b] 47)) (some ⟨w1.heap.size + 1, 0, none⟩) 1 1 [b]) := HYl.out.below ba
  replace HX : Hid (Bd (w4.alloc (.cells #[.bool g4a, .slice A4a m4a c4a, .int .i64 e4a, .bool g4b, .slice A4b m4b c4b, .int .i64 e4b] 47)) (w1.heap.size + 1 + 1) 32 false (some ⟨w1.heap.size, 0, none⟩) 1 1 i) := HX.out.below ba
  replace HY : Hid (Bd (w4.alloc (.cells #[.bool g4a, .slice A4a m4a c4a, .int .i64 e4a, .bool g4b, .slice A4b m4b c4b, .int .i64 e4b] 47)) (w1.heap.size + 1 + 1 + 1) 32 false (some ⟨w1.heap.size + 1, 0, none⟩) 1 1 k) := HY.out.below ba
  replace HPl : Hid (Lim (w4.alloc (.cells #[.bool g4a, .slice A4a m4a c4a, .int .i64 e4a, .bool g4b, .slice A4b m4b c4b, .int .i64 e4b] 47)) Ap mp cp ps) := HPl.out.below ba
  replace HP : Hid (Bd (w4.alloc (.cells #[.bool g4a, .slice A4a m4a c4a, .int .i64 e4a, .bool g4b, .slice A4b m4b c4b, .int .i64 e4b] 47)) w2.heap.size 32 gp Ap mp cp Ep) := HP.out.below ba
  replace HLl : Hid (Lim (w4.alloc (.cells #[.bool g4a, .slice A4a m4a c4a, .int .i64 e4a, .bool g4b, .slice A4b m4b c4b, .int .i64 e4b] 47)) A3a m3a c3a s3a) := HLl.out.below ba
  replace HHl : Hid (Lim (w4.alloc (.cells #[.bool g4a, .slice A4a m4a c4a, .int .i64 e4a, .bool g4b, .slice A4b m4b c4b, .int .i64 e4b] 47)) A3b m3b c3b s3b) := HHl.out.below ba
  replace HIl : Hid (Ib (w4.alloc (.cells #[.bool g4a, .slice A4a m4a c4a, .int .i64 e4a, .bool g4b, .slice A4b m4b c4b, .int .i64 e4b] 47)) w3.heap.size g3a A3a m3a c3a e3a g3b A3b m3b c3b e3b) := HIl.out.below ba
  replace HLm : Hid (Lim (w4.alloc (.cells #[.bool g4a, .slice A4a m4a c4a, .int .i64 e4a, .bool g4b, .slice A4b m4b c4b, .int .i64 e4b] 47)) A4a m4a c4a s4a) := HLm.out.below ba
  replace HHm : Hid (Lim (w4.alloc (.cells #[.bool g4a, .slice A4a m4a c4a, .int .i64 e4a, .bool g4b, .slice A4b m4b c4b, .int .i64 e4b] 47)) A4b m4b c4b s4b) := HHm.out.below ba
  replace HS := Lib.hid (HS.out.trans (ba.mono HS.out.size))
  clear ba
  have HIm : Hid (Ib (w4.alloc (.cells #[.bool g4a, .slice A4a m4a c4a, .int .i64 e4a, .bool g4b, .slice A4b m4b c4b, .int .i64 e4b] 47)) w4.heap.size g4a A4a m4a c4a e4a g4b A4b m4b c4b e4b) := Ib.new w4 g4a A4a m4a c4a e4a g4b A4b m4b c4b e4b
  have HP_0 := HP.out.c0
  have HP_1 := HP.out.c1
  have HP_2 := HP.out.c2
  have H3 := log_lg gp Ap mp cp ps Ep (z : Int) (w4.alloc (.cells #[.bool g4a, .slice A4a m4a c4a, .int .i64 e4a, .bool g4b, .slice A4b m4b c4b, .int .i64 e4b] 47)) HPl.out (by omega) HT.out (by omega) (by omega)
  rw [HPv.out.2] at H3
  replace H3 := Lib.hid H3
  go_wp2_with fail
  refine H3.out.mono ?_
  rintro e w5 ⟨g5a, A5a, m5a, c5a, s5a, e5a, g5b, A5b, m5b, c5b, s5b, e5b, r5, rfl, hm5a, hm5b, hl5a, hl5b, hb5a, hb5b, hB, hq⟩
  clear HP_0 HP_1 HP_2
  replace HT : Hid (Tab w5) := HT.out.below hB
  replace HXl : Hid (Lim w5 (some ⟨w1.heap.size, 0, none⟩) 1 1 [a]) := HXl.out.below hB
  replace HYl : Hid (Lim w5 (some ⟨w1.heap.size + 1, 0, none⟩) 1 1 [b]) := HYl.out.below hB
  replace HX : Hid (Bd w5 (w1.heap.size + 1 + 1) 32 false (some ⟨w1.heap.size, 0, none⟩) 1 1 i) := HX.out.below hB
  replace HY : Hid (Bd w5 (w1.heap.size + 1 + 1 + 1) 32 false (some ⟨w1.heap.size + 1, 0, none⟩) 1 1 k) := HY.out.below hB
  replace HPl : Hid (Lim w5 Ap mp cp ps) := HPl.out.below hB
  replace HP : Hid (Bd w5 w2.heap.size 32 gp Ap mp cp Ep) := HP.out.below hB
  replace HLl : Hid (Lim w5 A3a m3a c3a s3a) := HLl.out.below hB
  replace HHl : Hid (Lim w5 A3b m3b c3b s3b) := HHl.out.below hB
  replace HIl : Hid (Ib w5 w3.heap.size g3a A3a m3a c3a e3a g3b A3b m3b c3b e3b) := HIl.out.below hB
  replace HLm : Hid (Lim w5 A4a m4a c4a s4a) := HLm.out.below hB
  replace HHm : Hid (Lim w5 A4b m4b c4b s4b) := HHm.out.below hB
  replace HIm : Hid (Ib w5 w4.heap.size g4a A4a m4a c4a e4a g4b A4b m4b c4b e4b) := HIm.out.below hB
  replace HS := Lib.hid (HS.out.trans (hB.mono HS.out.size))
  have HLp : Hid (Lim w5 A5a m5a c5a s5a) := hl5a
  have HHp : Hid (Lim w5 A5b m5b c5b s5b) := hl5b
  have HBp : Hid (Bare s5a ∧ Bare s5b) := ⟨hb5a, hb5b⟩
  obtain ⟨rfl, Lp, Up, hVp, hLp, hUp⟩ := logp_yes hq (show mk gp pV Ep = some dq by have h1 := HD.out.2.2.2.1; rw [h1]; exact HD.out.2.2.2.2.1) HD.out.2.1.2.2 (by omega) (by omega)
  rw [Int.toNat_natCast] at hVp hLp hUp
  have HQp : Hid (LogV dq z Lp Up ∧ Un z Lp ⟨g5a, val s5a, e5a⟩ ∧ Un z Up ⟨g5b, val s5b, e5b⟩) := ⟨hVp, hLp, hUp⟩
  clear hVp hLp hUp
  clear hl5a hl5b hb5a hb5b hB hq H3
  have ba := below1 w5 (.cells #[.bool g5a, .slice A5a m5a c5a, .int .i64 e5a, .bool g5b, .slice A5b m5b c5b, .int .i64 e5b] 47)
  replace HT : Hid (Tab (w5.alloc (.cells #[.bool g5a, .slice A5a m5a c5a, .int .i64 e5a, .bool g5b, .slice A5b m5b c5b, .int .i64 e5b] 47))) := HT.out.below ba
  replace HXl : Hid (Lim (w5.alloc (.cells #[.bool g5a, .slice A5a m5a c5a, .int .i64 e5a, .bool g5b, .slice A5b m5b c5b, .int .i64 e5b] 47)) (some ⟨w1.heap.size, 0, none⟩) 1 1 [a]) := HXl.out.below ba
  replace HYl : Hid (Lim (w5.alloc (.cells #[.bool g5a, .slice A5a m5a c5a, .int .i64 e5a, .bool g5b, .slice A5b m5b c5b, .int .i64 e5b] 47)) (some ⟨w1.heap.size + 1, 0, none⟩) 1 1 [b]) := HYl.out.below ba
  replace HX : Hid (Bd (w5.alloc (.cells #[.bool g5a, .slice A5a m5a c5a, .int .i64 e5a, .bool g5b, .slice A5b m5b c5b, .int .i64 e5b] 47)) (w1.heap.size + 1 + 1) 32 false (some ⟨w1.heap.size, 0, none⟩) 1 1 i) := HX.out.below ba
  replace HY : Hid (Bd (w5.alloc (.cells #[.bool g5a, .slice A5a m5a c5a, .int .i64 e5a, .bool g5b, .slice A5b m5b c5b, .int .i64 e5b] 47)) (w1.heap.size + 1 + 1 + 1) 32 false (some ⟨w1.heap.size + 1, 0, none⟩) 1 1 k) := HY.out.below ba
  replace HPl : Hid (Lim (w5.alloc (.cells #[.bool g5a, .slice A5a m5a c5a, .int .i64 e5a, .bool g5b, .slice A5b m5b c5b, .int .i64 e5b] 47)) Ap mp cp ps) := HPl.out.below ba
  replace HP : Hid (Bd (w5.alloc (.cells #[.bool g5a, .slice A5a m5a c5a, .int .i64 e5a, .bool g5b, .slice A5b m5b c5b, .int .i64 e5b] 47)) w2.heap.size 32 gp Ap mp cp Ep) := HP.out.below ba
  replace HLl : Hid (Lim (w5.alloc (.cells #[.bool g5a, .slice A5a m5a c5a, .int .i64 e5a, .bool g5b, .slice A5b m5b c5b, .int .i64 e5b] 47)) A3a m3a c3a s3a) := HLl.out.below ba
  replace HHl : Hid (Lim (w5.alloc (.cells #[.bool g5a, .slice A5a m5a c5a, .int .i64 e5a, .bool g5b, .slice A5b m5b c5b, .int .i64 e5b] 47)) A3b m3b c3b s3b) := HHl.out.below ba
  replace HIl : Hid (Ib (w5.alloc (.cells #[.bool g5a, .slice A5a m5a c5a, .int .i64 e5a, .bool g5b, .slice A5b m5b c5b, .int .i64 e5b] 47)) w3.heap.size g3a A3a m3a c3a e3a g3b A3b m3b c3b e3b) := HIl.out.below ba
  replace HLm : Hid (Lim (w5.alloc (.cells #[.bool g5a, .slice A5a m5a c5a, .int .i64 e5a, .bool g5b, .slice A5b m5b c5b, .int .i64 e5b] 47)) A4a m4a c4a s4a) := HLm.out.below ba
  replace HHm : Hid (Lim (w5.alloc (.cells #[.bool g5a, .slice A5a m5a c5a, .int .i64 e5a, .bool g5b, .slice A5b m5b c5b, .int .i64 e5b] 47)) A4b m4b c4b s4b) := HHm.out.below ba
  replace HIm : Hid (Ib (w5.alloc (.cells #[.bool g5a, .slice A5a m5a c5a, .int .i64 e5a, .bool g5b, .slice A5b m5b c5b, .int .i64 e5b] 47)) w4.heap.size g4a A4a m4a c4a e4a g4b A4b m4b c4b e4b) := HIm.out.below ba
  replace HLp : Hid (Lim (w5.alloc (.cells #[.bool g5a, .slice A5a m5a c5a, .int .i64 e5a, .bool g5b, .slice A5b m5b c5b, .int .i64 e5b] 47)) A5a m5a c5a s5a) := HLp.out.below ba
  replace HHp : Hid (Lim (w5.alloc (.cells #[.bool g5a, .slice A5a m5a c5a, .int .i64 e5a, .bool g5b, .slice A5b m5b c5b, .int .i64 e5b] 47)) A5b m5b c5b s5b) := HHp.out.below ba
  replace HS := Lib.hid (HS.out.trans (ba.mono HS.out.size))
  clear ba
  have HIp : Hid (Ib (w5.alloc (.cells #[.bool g5a, .slice A5a m5a c5a, .int .i64 e5a, .bool g5b, .slice A5b m5b c5b, .int .i64 e5b] 47)) w5.heap.size g5a A5a m5a c5a e5a g5b A5b m5b c5b e5b) := Ib.new w5 g5a A5a m5a c5a e5a g5b A5b m5b c5b e5b
  have hr := rules_sum HD.out.2.1.1 HD.out.2.1.2.1 HD.out.2.1.2.2 HQl.out.1 HQm.out.1 HQp.out.1 HD.out.2.2.1.2.2
  have HRs : Hid (Ll + Lm ≤ Up ∧ Lp ≤ Ul + Um) := hr
  clear hr
  have hfl := log_far HD.out.2.1.1 (by omega) (by omega) HQl.out.1
  have hfm := log_far HD.out.2.1.2.1 (by omega) (by omega) HQm.out.1
  have hs1 := far_sum hfl.1 hfm.1
  have hs2 := far_sum hfl.2 hfm.2
  obtain ⟨dlo, hlo1, hlo2⟩ := un_add HQl.out.2.1 HQm.out.2.1 (by omega) hs1.1 hs1.2.1
  obtain ⟨dhi, hhi1, hhi2⟩ := un_add HQl.out.2.2 HQm.out.2.2 (by omega) hs2.1 hs2.2.1
  dsimp only at hlo1 hhi1
  have HLo : Hid (_ ∧ Un z (Ll + Lm) dlo) := ⟨hlo1, hlo2⟩
  have HHi : Hid (_ ∧ Un z (Ul + Um) dhi) := ⟨hhi1, hhi2⟩
  clear hfl hfm hs1 hs2 hlo1 hlo2 hhi1 hhi2
  have HIl_0 := HIl.out.x0
  have HIl_1 := HIl.out.x1
  have HIl_2 := HIl.out.x2
  have HIl_3 := HIl.out.x3
  have HIl_4 := HIl.out.x4
  have HIl_5 := HIl.out.x5
  have HIm_0 := HIm.out.x0
  have HIm_1 := HIm.out.x1
  have HIm_2 := HIm.out.x2
  have HIm_3 := HIm.out.x3
  have HIm_4 := HIm.out.x4
  have HIm_5 := HIm.out.x5
  have H4 := Lib.hid (dadd_any (some dlo) g3a A3a m3a c3a s3a e3a g4a A4a m4a c4a s4a e4a (w5.alloc (.cells #[.bool g5a, .slice A5a m5a c5a, .int .i64 e5a, .bool g5b, .slice A5b m5b c5b, .int .i64 e5b] 47)) HLl.out HLm.out (by omega) (by omega) HT.out HLo.out.1)
  go_wp2_with fail
  refine H4.out.mono ?_
  rintro e w6 ⟨g6, A6, m6, c6, s6, e6, r6, rfl, hm6, hl6, hb6, ⟨rfl, hg6, hV6, hE6⟩, hB⟩
  clear HIl_0 HIl_1 HIl_2 HIl_3 HIl_4 HIl_5 HIm_0 HIm_1 HIm_2 HIm_3 HIm_4 HIm_5
  replace HT : Hid (Tab w6) := HT.out.below hB
  replace HXl : Hid (Lim w6 (some ⟨w1.heap.size, 0, none⟩) 1 1 [a]) := HXl.out.below hB
  replace HYl : Hid (Lim w6 (some ⟨w1.heap.size + 1, 0, none⟩) 1 1 [b]) := HYl.out.below hB
  replace HX : Hid (Bd w6 (w1.heap.size + 1 + 1) 32 false (some ⟨w1.heap.size, 0, none⟩) 1 1 i) := HX.out.below hB
  replace HY : Hid (Bd w6 (w1.heap.size + 1 + 1 + 1) 32 false (some ⟨w1.heap.size + 1, 0, none⟩) 1 1 k) := HY.out.below hB
  replace HPl : Hid (Lim w6 Ap mp cp ps) := HPl.out.below hB
  replace HP : Hid (Bd w6 w2.heap.size 32 gp Ap mp cp Ep) := HP.out.below hB
  replace HLl : Hid (Lim w6 A3a m3a c3a s3a) := HLl.out.below hB
  replace HHl : Hid (Lim w6 A3b m3b c3b s3b) := HHl.out.below hB
  replace HIl : Hid (Ib w6 w3.heap.size g3a A3a m3a c3a e3a g3b A3b m3b c3b e3b) := HIl.out.below hB
  replace HLm : Hid (Lim w6 A4a m4a c4a s4a) := HLm.out.below hB
  replace HHm : Hid (Lim w6 A4b m4b c4b s4b) := HHm.out.below hB
  replace HIm : Hid (Ib w6 w4.heap.size g4a A4a m4a c4a e4a g4b A4b m4b c4b e4b) := HIm.out.below hB
  replace HLp : Hid (Lim w6 A5a m5a c5a s5a) := HLp.out.below hB
  replace HHp : Hid (Lim w6 A5b m5b c5b s5b) := HHp.out.below hB
  replace HIp : Hid (Ib w6 w5.heap.size g5a A5a m5a c5a e5a g5b A5b m5b c5b e5b) := HIp.out.below hB
  replace HS := Lib.hid (HS.out.trans (hB.mono HS.out.size))
  have Hlol : Hid (Lim w6 A6 m6 c6 s6) := hl6
  have Hloq : Hid (dlo = ⟨g6, val s6, e6⟩) := by show _ = _; rw [hg6, hV6, hE6]
  clear hl6 hb6 hg6 hV6 hE6 hB H4
  have ba := below1 w6 (.cells #[.bool g6, .slice A6 m6 c6, .int .i64 e6] 32)
  replace HT : Hid (Tab (w6.alloc (.cells #[.bool g6, .slice A6 m6 c6, .int .i64 e6] 32))) := HT.out.below ba
  replace HXl : Hid (Lim (w6.alloc (.cells #[.bool g6, .slice A6 m6 c6, .int .i64 e6] 32)) (some ⟨w1.heap.size, 0, none⟩) 1 1 [a]) := HXl.out.below ba
  replace HYl : Hid (Lim (w6.alloc (.cells #[.bool g6, .slice A6 m6 c6, .int .i64 e6] 32)) (some ⟨w1.heap.size + 1, 0, none⟩) 1 1 [b]) := HYl.out.below ba
  replace HX : Hid (Bd (w6.alloc (.cells #[.bool g6, .slice A6 m6 c6, .int .i64 e6] 32)) (w1.heap.size + 1 + 1) 32 false (some ⟨w1.heap.size, 0, none⟩) 1 1 i) := HX.out.below ba
  replace HY : Hid (Bd (w6.alloc (.cells #[.bool g6, .slice A6 m6 c6, .int .i64 e6] 32)) (w1.heap.size + 1 + 1 + 1) 32 false (some ⟨w1.heap.size + 1, 0, none⟩) 1 1 k) := HY.out.below ba
  replace HPl : Hid (Lim (w6.alloc (.cells #[.bool g6, .slice A6 m6 c6, .int .i64 e6] 32)) Ap mp cp ps) := HPl.out.below ba
  replace HP : Hid (Bd (w6.alloc (.cells #[.bool g6, .slice A6 m6 c6, .int .i64 e6] 32)) w2.heap.size 32 gp Ap mp cp Ep) := HP.out.below ba
  replace HLl : Hid (Lim (w6.alloc (.cells #[.bool g6, .slice A6 m6 c6, .int .i64 e6] 32)) A3a m3a c3a s3a) := HLl.out.below ba
  replace HHl : Hid (Lim (w6.alloc (.cells #[.bool g6, .slice A6 m6 c6, .int .i64 e6] 32)) A3b m3b c3b s3b) := HHl.out.below ba
  replace HIl : Hid (Ib (w6.alloc (.cells #[.bool g6, .slice A6 m6 c6, .int .i64 e6] 32)) w3.heap.size g3a A3a m3a c3a e3a g3b A3b m3b c3b e3b) := HIl.out.below ba
  replace HLm : Hid (Lim (w6.alloc (.cells #[.bool g6, .slice A6 m6 c6, .int .i64 e6] 32)) A4a m4a c4a s4a) := HLm.out.below ba
  replace HHm : Hid (Lim (w6.alloc (.cells #[.bool g6, .slice A6 m6 c6, .int .i64 e6] 32)) A4b m4b c4b s4b) := HHm.out.below ba
  replace HIm : Hid (Ib (w6.alloc (.cells #[.bool g6, .slice A6 m6 c6, .int .i64 e6] 32)) w4.heap.size g4a A4a m4a c4a e4a g4b A4b m4b c4b e4b) := HIm.out.below ba
  replace HLp : Hid (Lim (w6.alloc (.cells #[.bool g6, .slice A6 m6 c6, .int .i64 e6] 32)) A5a m5a c5a s5a) := HLp.out.below ba
  replace HHp : Hid (Lim (w6.alloc (.cells #[.bool g6, .slice A6 m6 c6, .int .i64 e6] 32)) A5b m5b c5b s5b) := HHp.out.below ba
  replace HIp : Hid (Ib (w6.alloc (.cells #[.bool g6, .slice A6 m6 c6, .int .i64 e6] 32)) w5.heap.size g5a A5a m5a c5a e5a g5b A5b m5b c5b e5b) := HIp.out.below ba
  replace Hlol : Hid (Lim (w6.alloc (.cells #[.bool g6, .slice A6 m6 c6, .int .i64 e6] 32)) A6 m6 c6 s6) := Hlol.out.below ba
  replace HS := Lib.hid (HS.out.trans (ba.mono HS.out.size))
  clear ba
  have Hlo : Hid (Bd (w6.alloc (.cells #[.bool g6, .slice A6 m6 c6, .int .i64 e6] 32)) w6.heap.size 32 g6 A6 m6 c6 e6) := Bd.new w6 32 g6 A6 m6 c6 e6
  have HIl_0 := HIl.out.x0
  have HIl_1 := HIl.out.x1
  have HIl_2 := HIl.out.x2
  have HIl_3 := HIl.out.x3
  have HIl_4 := HIl.out.x4
  have HIl_5 := HIl.out.x5
  have HIm_0 := HIm.out.x0
  have HIm_1 := HIm.out.x1
  have HIm_2 := HIm.out.x2
  have HIm_3 := HIm.out.x3
  have HIm_4 := HIm.out.x4
  have HIm_5 := HIm.out.x5
  have H4 := Lib.hid (dadd_any (some dhi) g3b A3b m3b c3b s3b e3b g4b A4b m4b c4b s4b e4b (w6.alloc (.cells #[.bool g6, .slice A6 m6 c6, .int .i64 e6] 32)) HHl.out HHm.out (by omega) (by omega) HT.out HHi.out.1)
  go_wp2_with fail
  refine H4.out.mono ?_
  rintro e w7 ⟨g7, A7, m7, c7, s7, e7, r7, rfl, hm7, hl7, hb7, ⟨rfl, hg7, hV7, hE7⟩, hB⟩
  clear HIl_0 HIl_1 HIl_2 HIl_3 HIl_4 HIl_5 HIm_0 HIm_1 HIm_2 HIm_3 HIm_4 HIm_5
  replace HT : Hid (Tab w7) := HT.out.below hB
  replace HXl : Hid (Lim w7 (some ⟨w1.heap.size, 0, none⟩) 1 1 [a]) := HXl.out.below hB
  replace HYl : Hid (Lim w7 (some ⟨w1.heap.size + 1, 0, none⟩) 1 1 [b]) := HYl.out.below hB
  replace HX : Hid (Bd w7 (w1.heap.size + 1 + 1) 32 false (some ⟨w1.heap.size, 0, none⟩) 1 1 i) := HX.out.below hB
  replace HY : Hid (Bd w7 (w1.heap.size + 1 + 1 + 1) 32 false (some ⟨w1.heap.size + 1, 0, none⟩) 1 1 k) := HY.out.below hB
  replace HPl : Hid (Lim w7 Ap mp cp ps) := HPl.out.below hB
  replace HP : Hid (Bd w7 w2.heap.size 32 gp Ap mp cp Ep) := HP.out.below hB
  replace HLl : Hid (Lim w7 A3a m3a c3a s3a) := HLl.out.below hB
  replace HHl : Hid (Lim w7 A3b m3b c3b s3b) := HHl.out.below hB
  replace HIl : Hid (Ib w7 w3.heap.size g3a A3a m3a c3a e3a g3b A3b m3b c3b e3b) := HIl.out.below hB
  replace HLm : Hid (Lim w7 A4a m4a c4a s4a) := HLm.out.below hB
  replace HHm : Hid (Lim w7 A4b m4b c4b s4b) := HHm.out.below hB
  replace HIm : Hid (Ib w7 w4.heap.size g4a A4a m4a c4a e4a g4b A4b m4b c4b e4b) := HIm.out.below hB
  replace HLp : Hid (Lim w7 A5a m5a c5a s5a) := HLp.out.below hB
  replace HHp : Hid (Lim w7 A5b m5b c5b s5b) := HHp.out.below hB
  replace HIp : Hid (Ib w7 w5.heap.size g5a A5a m5a c5a e5a g5b A5b m5b c5b e5b) := HIp.out.below hB
  replace Hlol : Hid (Lim w7 A6 m6 c6 s6) := Hlol.out.below hB
  replace Hlo : Hid (Bd w7 w6.heap.size 32 g6 A6 m6 c6 e6) := Hlo.out.below hB
  replace HS := Lib.hid (HS.out.trans (hB.mono HS.out.size))
  have Hhil : Hid (Lim w7 A7 m7 c7 s7) := hl7
  have Hhiq : Hid (dhi = ⟨g7, val s7, e7⟩) := by show _ = _; rw [hg7, hV7, hE7]
  clear hl7 hb7 hg7 hV7 hE7 hB H4
  have ba := below1 w7 (.cells #[.bool g7, .slice A7 m7 c7, .int .i64 e7] 32)
  replace HT : Hid (Tab (w7.alloc (.cells #[.bool g7, .slice A7 m7 c7, .int .i64 e7] 32))) := HT.out.below ba
  replace HXl : Hid (Lim (w7.alloc (.cells #[.bool g7, .slice A7 m7 c7, .int .i64 e7] 32)) (some ⟨w1.heap.size, 0, none⟩) 1 1 [a]) := HXl.out.below ba
  replace HYl : Hid (Lim (w7.alloc (.cells #[.bool g7, .slice A7 m7 c7, .int .i64 e7] 32)) (some ⟨w1.heap.size + 1, 0, none⟩) 1 1 [b]) := HYl.out.below ba
  replace HX : Hid (Bd (w7.alloc (.cells #[.bool g7, .slice A7 m7 c7, .int .i64 e7] 32)) (w1.heap.size + 1 + 1) 32 false (some ⟨w1.heap.size, 0, none⟩) 1 1 i) := HX.out.below ba
  replace HY : Hid (Bd (w7.alloc (.cells #[.bool g7, .slice A7 m7 c7, .int .i64 e7] 32)) (w1.heap.size + 1 + 1 + 1) 32 false (some ⟨w1.heap.size + 1, 0, none⟩) 1 1 k) := HY.out.below ba
  replace HPl : Hid (Lim (w7.alloc (.cells #[.bool g7, .slice A7 m7 c7, .int .i64 e7] 32)) Ap mp cp ps) := HPl.out.below ba
  replace HP : Hid (Bd (w7.alloc (.cells #[.bool g7, .slice A7 m7 c7, .int .i64 e7] 32)) w2.heap.size 32 gp Ap mp cp Ep) := HP.out.below ba
  replace HLl : Hid (Lim (w7.alloc (.cells #[.bool g7, .slice A7 m7 c7, .int .i64 e7] 32)) A3a m3a c3a s3a) := HLl.out.below ba
  replace HHl : Hid (Lim (w7.alloc (.cells #[.bool g7, .slice A7 m7 c7, .int .i64 e7] 32)) A3b m3b c3b s3b) := HHl.out.below ba
  replace HIl : Hid (Ib (w7.alloc (.cells #[.bool g7, .slice A7 m7 c7, .int .i64 e7] 32)) w3.heap.size g3a A3a m3a c3a e3a g3b A3b m3b c3b e3b) := HIl.out.below ba
  replace HLm : Hid (Lim (w7.alloc (.cells #[.bool g7, .slice A7 m7 c7, .int .i64 e7] 32)) A4a m4a c4a s4a) := HLm.out.below ba
  replace HHm : Hid (Lim (w7.alloc (.cells #[.bool g7, .slice A7 m7 c7, .int .i64 e7] 32)) A4b m4b c4b s4b) := HHm.out.below ba
  replace HIm : Hid (Ib (w7.alloc (.cells #[.bool g7, .slice A7 m7 c7, .int .i64 e7] 32)) w4.heap.size g4a A4a m4a c4a e4a g4b A4b m4b c4b e4b) := HIm.out.below ba
  replace HLp : Hid (Lim (w7.alloc (.cells #[.bool g7, .slice A7 m7 c7, .int .i64 e7] 32)) A5a m5a c5a s5a) := HLp.out.below ba
  replace HHp : Hid (Lim (w7.alloc (.cells #[.bool g7, .slice A7 m7 c7, .int .i64 e7] 32)) A5b m5b c5b s5b) := HHp.out.below ba
  replace HIp : Hid (Ib (w7.alloc (.cells #[.bool g7, .slice A7 m7 c7, .int .i64 e7] 32)) w5.heap.size g5a A5a m5a c5a e5a g5b A5b m5b c5b e5b) := HIp.out.below ba
  replace Hlol : Hid (Lim (w7.alloc (.cells #[.bool g7, .slice A7 m7 c7, .int .i64 e7] 32)) A6 m6 c6 s6) := Hlol.out.below ba
  replace Hlo : Hid (Bd (w7.alloc (.cells #[.bool g7, .slice A7 m7 c7, .int .i64 e7] 32)) w6.heap.size 32 g6 A6 m6 c6 e6) := Hlo.out.below ba
  replace Hhil : Hid (Lim (w7.alloc (.cells #[.bool g7, .slice A7 m7 c7, .int .i64 e7] 32)) A7 m7 c7 s7) := Hhil.out.below ba
  replace HS := Lib.hid (HS.out.trans (ba.mono HS.out.size))
  clear ba
  have Hhi : Hid (Bd (w7.alloc (.cells #[.bool g7, .slice A7 m7 c7, .int .i64 e7] 32)) w7.heap.size 32 g7 A7 m7 c7 e7) := Bd.new w7 32 g7 A7 m7 c7 e7
  have Hlo_0 := Hlo.out.c0
  have Hlo_1 := Hlo.out.c1
  have Hlo_2 := Hlo.out.c2
  have HIp_0 := HIp.out.x0
  have HIp_1 := HIp.out.x1
  have HIp_2 := HIp.out.x2
  have HIp_3 := HIp.out.x3
  have HIp_4 := HIp.out.x4
  have HIp_5 := HIp.out.x5
  obtain ⟨va, hva⟩ : ∃ v, cmpI (Ll + Lm) (Up) = v := ⟨_, rfl⟩
  have cva : decide ((0 : Int) < va) = false := by rw [← hva]; exact decide_eq_false (by have := cmpI_down (show Ll + Lm ≤ Up by exact HRs.out.1); omega)
  have H5 := Lib.hid (dcmp_l va g6 A6 m6 c6 s6 e6 g5b A5b m5b c5b s5b e5b (w7.alloc (.cells #[.bool g7, .slice A7 m7 c7, .int .i64 e7] 32)) Hlol.out HHp.out (by omega) (by omega) HT.out (by show _ = _; rw [← hva]; have h := HLo.out.2; rw [Hloq.out] at h; exact un_cmp h HQp.out.2.2))
  clear hva
  go_wp2_with fail
  refine H5.out.mono ?_
  rintro e w8 ⟨rfl, hB⟩
  clear Hlo_0 Hlo_1 Hlo_2 HIp_0 HIp_1 HIp_2 HIp_3 HIp_4 HIp_5
  replace HT : Hid (Tab w8) := HT.out.below hB
  replace HXl : Hid (Lim w8 (some ⟨w1.heap.size, 0, none⟩) 1 1 [a]) := HXl.out.below hB
  replace HYl : Hid (Lim w8 (some ⟨w1.heap.size + 1, 0, none⟩) 1 1 [b]) := HYl.out.below hB
  replace HX : Hid (Bd w8 (w1.heap.size + 1 + 1) 32 false (some ⟨w1.heap.size, 0, none⟩) 1 1 i) := HX.out.below hB
  replace HY : Hid (Bd w8 (w1.heap.size + 1 + 1 + 1) 32 false (some ⟨w1.heap.size + 1, 0, none⟩) 1 1 k) := HY.out.below hB
  replace HPl : Hid (Lim w8 Ap mp cp ps) := HPl.out.below hB
  replace HP : Hid (Bd w8 w2.heap.size 32 gp Ap mp cp Ep) := HP.out.below hB
  replace HLl : Hid (Lim w8 A3a m3a c3a s3a) := HLl.out.below hB
  replace HHl : Hid (Lim w8 A3b m3b c3b s3b) := HHl.out.below hB
  replace HIl : Hid (Ib w8 w3.heap.size g3a A3a m3a c3a e3a g3b A3b m3b c3b e3b) := HIl.out.below hB
  replace HLm : Hid (Lim w8 A4a m4a c4a s4a) := HLm.out.below hB
  replace HHm : Hid (Lim w8 A4b m4b c4b s4b) := HHm.out.below hB
  replace HIm : Hid (Ib w8 w4.heap.size g4a A4a m4a c4a e4a g4b A4b m4b c4b e4b) := HIm.out.below hB
  replace HLp : Hid (Lim w8 A5a m5a c5a s5a) := HLp.out.below hB
  replace HHp : Hid (Lim w8 A5b m5b c5b s5b) := HHp.out.below hB
  replace HIp : Hid (Ib w8 w5.heap.size g5a A5a m5a c5a e5a g5b A5b m5b c5b e5b) := HIp.out.below hB
  replace Hlol : Hid (Lim w8 A6 m6 c6 s6) := Hlol.out.below hB
  replace Hlo : Hid (Bd w8 w6.heap.size 32 g6 A6 m6 c6 e6) := Hlo.out.below hB
  replace Hhil : Hid (Lim w8 A7 m7 c7 s7) := Hhil.out.below hB
  replace Hhi : Hid (Bd w8 w7.heap.size 32 g7 A7 m7 c7 e7) := Hhi.out.below hB
  replace HS := Lib.hid (HS.out.trans (hB.mono HS.out.size))
  clear hB H5
  have HIp_0 := HIp.out.x0
  have HIp_1 := HIp.out.x1
  have HIp_2 := HIp.out.x2
  have HIp_3 := HIp.out.x3
  have HIp_4 := HIp.out.x4
  have HIp_5 := HIp.out.x5
  have Hhi_0 := Hhi.out.c0
  have Hhi_1 := Hhi.out.c1
  have Hhi_2 := Hhi.out.c2
  obtain ⟨vb, hvb⟩ : ∃ v, cmpI (Lp) (Ul + Um) = v := ⟨_, rfl⟩
  have cvb : decide ((0 : Int) < vb) = false := by rw [← hvb]; exact decide_eq_false (by have := cmpI_down (show Lp ≤ Ul + Um by exact HRs.out.2); omega)
  have H5 := Lib.hid (dcmp_l vb g5a A5a m5a c5a s5a e5a g7 A7 m7 c7 s7 e7 w8 HLp.out Hhil.out (by omega) (by omega) HT.out (by show _ = _; rw [← hvb]; have h := HHi.out.2; rw [Hhiq.out] at h; exact un_cmp HQp.out.2.1 h))
  clear hvb
  go_wp2_with fail
  refine H5.out.mono ?_
  rintro e w9 ⟨rfl, hB⟩
  clear HIp_0 HIp_1 HIp_2 HIp_3 HIp_4 HIp_5 Hhi_0 Hhi_1 Hhi_2
  replace HT : Hid (Tab w9) := HT.out.below hB
  replace HXl : Hid (Lim w9 (some ⟨w1.heap.size, 0, none⟩) 1 1 [a]) := HXl.out.below hB
  replace HYl : Hid (Lim w9 (some ⟨w1.heap.size + 1, 0, none⟩) 1 1 [b]) := HYl.out.below hB
  replace HX : Hid (Bd w9 (w1.heap.size + 1 + 1) 32 false (some ⟨w1.heap.size, 0, none⟩) 1 1 i) := HX.out.below hB
  replace HY : Hid (Bd w9 (w1.heap.size + 1 + 1 + 1) 32 false (some ⟨w1.heap.size + 1, 0, none⟩) 1 1 k) := HY.out.below hB
  replace HPl : Hid (Lim w9 Ap mp cp ps) := HPl.out.below hB
  replace HP : Hid (Bd w9 w2.heap.size 32 gp Ap mp cp Ep) := HP.out.below hB
  replace HLl : Hid (Lim w9 A3a m3a c3a s3a) := HLl.out.below hB
  replace HHl : Hid (Lim w9 A3b m3b c3b s3b) := HHl.out.below hB
  replace HIl : Hid (Ib w9 w3.heap.size g3a A3a m3a c3a e3a g3b A3b m3b c3b e3b) := HIl.out.below hB
  replace HLm : Hid (Lim w9 A4a m4a c4a s4a) := HLm.out.below hB
  replace HHm : Hid (Lim w9 A4b m4b c4b s4b) := HHm.out.below hB
  replace HIm : Hid (Ib w9 w4.heap.size g4a A4a m4a c4a e4a g4b A4b m4b c4b e4b) := HIm.out.below hB
  replace HLp : Hid (Lim w9 A5a m5a c5a s5a) := HLp.out.below hB
  replace HHp : Hid (Lim w9 A5b m5b c5b s5b) := HHp.out.below hB
  replace HIp : Hid (Ib w9 w5.heap.size g5a A5a m5a c5a e5a g5b A5b m5b c5b e5b) := HIp.out.below hB
  replace Hlol : Hid (Lim w9 A6 m6 c6 s6) := Hlol.out.below hB
  replace Hlo : Hid (Bd w9 w6.heap.size 32 g6 A6 m6 c6 e6) := Hlo.out.below hB
  replace Hhil : Hid (Lim w9 A7 m7 c7 s7) := Hhil.out.below hB
  replace Hhi : Hid (Bd w9 w7.heap.size 32 g7 A7 m7 c7 e7) := Hhi.out.below hB
  replace HS := Lib.hid (HS.out.trans (hB.mono HS.out.size))
  clear hB H5
  clear Hlo Hhi Hlol Hhil HIp HLp HHp
  clear Hloq Hhiq HLo HHi HRs HQp HBp
  have HX_0 := HX.out.c0
  have HX_1 := HX.out.c1
  have HX_2 := HX.out.c2
  have HY_0 := HY.out.c0
  have HY_1 := HY.out.c1
  have HY_2 := HY.out.c2
  have H6 := Lib.hid (dcmp_l cc false (some ⟨w1.heap.size, 0, none⟩) 1 1 [a] i false (some ⟨w1.heap.size + 1, 0, none⟩) 1 1 [b] k w9 HXl.out HYl.out (by decide) (by decide) HT.out (by show _ = _; rw [lval_one, lval_one]; exact HC.out.1))
  go_wp2_with fail
  refine H6.out.mono ?_
  rintro e w10 ⟨rfl, hB⟩
  clear HX_0 HX_1 HX_2 HY_0 HY_1 HY_2
  replace HT : Hid (Tab w10) := HT.out.below hB
  replace HXl : Hid (Lim w10 (some ⟨w1.heap.size, 0, none⟩) 1 1 [a]) := HXl.out.below hB
  replace HYl : Hid (Lim w10 (some ⟨w1.heap.size + 1, 0, none⟩) 1 1 [b]) := HYl.out.below hB
  replace HX : Hid (Bd w10 (w1.heap.size + 1 + 1) 32 false (some ⟨w1.heap.size, 0, none⟩) 1 1 i) := HX.out.below hB
  replace HY : Hid (Bd w10 (w1.heap.size + 1 + 1 + 1) 32 false (some ⟨w1.heap.size + 1, 0, none⟩) 1 1 k) := HY.out.below hB
  replace HPl : Hid (Lim w10 Ap mp cp ps) := HPl.out.below hB
  replace HP : Hid (Bd w10 w2.heap.size 32 gp Ap mp cp Ep) := HP.out.below hB
  replace HLl : Hid (Lim w10 A3a m3a c3a s3a) := HLl.out.below hB
  replace HHl : Hid (Lim w10 A3b m3b c3b s3b) := HHl.out.below hB
  replace HIl : Hid (Ib w10 w3.heap.size g3a A3a m3a c3a e3a g3b A3b m3b c3b e3b) := HIl.out.below hB
  replace HLm : Hid (Lim w10 A4a m4a c4a s4a) := HLm.out.below hB
  replace HHm : Hid (Lim w10 A4b m4b c4b s4b) := HHm.out.below hB
  replace HIm : Hid (Ib w10 w4.heap.size g4a A4a m4a c4a e4a g4b A4b m4b c4b e4b) := HIm.out.below hB
  replace HS := Lib.hid (HS.out.trans (hB.mono HS.out.size))
  clear hB H6
  have d1 : decide (cc ≤ (0 : Int)) = false := decide_eq_false (by have := HC.out.2; omega)
  have d2 : decide ((0 : Int) ≤ cc) = true := decide_eq_true (by have := HC.out.2; omega)
  have HIm_0 := HIm.out.x0
  have HIm_1 := HIm.out.x1
  have HIm_2 := HIm.out.x2
  have HIm_3 := HIm.out.x3
  have HIm_4 := HIm.out.x4
  have HIm_5 := HIm.out.x5
  have HIl_0 := HIl.out.x0
  have HIl_1 := HIl.out.x1
  have HIl_2 := HIl.out.x2
  have HIl_3 := HIl.out.x3
  have HIl_4 := HIl.out.x4
  have HIl_5 := HIl.out.x5
  obtain ⟨vd, hvd⟩ : ∃ v, cmpI (Lm) (Ul) = v := ⟨_, rfl⟩
  have cvd : decide ((0 : Int) < vd) = false := by rw [← hvd]; exact decide_eq_false (by have := cmpI_down (show Lm ≤ Ul by exact rules_ord HD.out.2.1.2.1 HD.out.2.1.1 HQm.out.1 HQl.out.1 (by rw [HD.out.2.2.1.1, HD.out.2.2.1.2.1]; exact rat_of_cmp' (by rw [HC.out.1]; have := HC.out.2; omega))); omega)
  have H5 := Lib.hid (dcmp_l vd g4a A4a m4a c4a s4a e4a g3b A3b m3b c3b s3b e3b w10 HLm.out HHl.out (by omega) (by omega) HT.out (by show _ = _; rw [← hvd]; exact un_cmp HQm.out.2.1 HQl.out.2.2))
  clear hvd
  go_wp2_with fail
  refine H5.out.mono ?_
  rintro e w11 ⟨rfl, hB⟩
  clear HIm_0 HIm_1 HIm_2 HIm_3 HIm_4 HIm_5 HIl_0 HIl_1 HIl_2 HIl_3 HIl_4 HIl_5
  replace HT : Hid (Tab w11) := HT.out.below hB
  replace HXl : Hid (Lim w11 (some ⟨w1.heap.size, 0, none⟩) 1 1 [a]) := HXl.out.below hB
  replace HYl : Hid (Lim w11 (some ⟨w1.heap.size + 1, 0, none⟩) 1 1 [b]) := HYl.out.below hB
  replace HX : Hid (Bd w11 (w1.heap.size + 1 + 1) 32 false (some ⟨w1.heap.size, 0, none⟩) 1 1 i) := HX.out.below hB
  replace HY : Hid (Bd w11 (w1.heap.size + 1 + 1 + 1) 32 false (some ⟨w1.heap.size + 1, 0, none⟩) 1 1 k) := HY.out.below hB
  replace HPl : Hid (Lim w11 Ap mp cp ps) := HPl.out.below hB
  replace HP : Hid (Bd w11 w2.heap.size 32 gp Ap mp cp Ep) := HP.out.below hB
  replace HLl : Hid (Lim w11 A3a m3a c3a s3a) := HLl.out.below hB
  replace HHl : Hid (Lim w11 A3b m3b c3b s3b) := HHl.out.below hB
  replace HIl : Hid (Ib w11 w3.heap.size g3a A3a m3a c3a e3a g3b A3b m3b c3b e3b) := HIl.out.below hB
  replace HLm : Hid (Lim w11 A4a m4a c4a s4a) := HLm.out.below hB
  replace HHm : Hid (Lim w11 A4b m4b c4b s4b) := HHm.out.below hB
  replace HIm : Hid (Ib w11 w4.heap.size g4a A4a m4a c4a e4a g4b A4b m4b c4b e4b) := HIm.out.below hB
  replace HS := Lib.hid (HS.out.trans (hB.mono HS.out.size))
  clear hB H5
  clear HY HYl HIm HLm HHm
  clear HC HQm HBm
  have bd := below_drew w11
  replace HT : Hid (Tab w11.drew) := HT.out.below bd
  replace HXl : Hid (Lim w11.drew (some ⟨w1.heap.size, 0, none⟩) 1 1 [a]) := HXl.out.below bd
  replace HX : Hid (Bd w11.drew (w1.heap.size + 1 + 1) 32 false (some ⟨w1.heap.size, 0, none⟩) 1 1 i) := HX.out.below bd
  replace HPl : Hid (Lim w11.drew Ap mp cp ps) := HPl.out.below bd
  replace HP : Hid (Bd w11.drew w2.heap.size 32 gp Ap mp cp Ep) := HP.out.below bd
  replace HLl : Hid (Lim w11.drew A3a m3a c3a s3a) := HLl.out.below bd
  replace HHl : Hid (Lim w11.drew A3b m3b c3b s3b) := HHl.out.below bd
  replace HIl : Hid (Ib w11.drew w3.heap.size g3a A3a m3a c3a e3a g3b A3b m3b c3b e3b) := HIl.out.below bd
  replace HS := Lib.hid (HS.out.trans (bd.mono HS.out.size))
  clear bd
  have Ha : Hid (Calls Tryd.prog 21 #[.int .i64 1] w11.drew (Tells1 w11.drew false 1 1 0)) := dof_nat 1 (by decide) false 1 0 w11.drew HT.out rfl
  have K0 := Lib.hid (And.intro HX.out.c0 (And.intro HX.out.c1 HX.out.c2))
  go_wp2_with fail
  go_region_held3 (fun w' => w'.cell? ⟨w1.heap.size + 1 + 1, 0, none⟩ = some (.bool false) ∧ w'.cell? ⟨w1.heap.size + 1 + 1, 1, none⟩ = some (.slice (some ⟨w1.heap.size, 0, none⟩) 1 1) ∧ w'.cell? ⟨w1.heap.size + 1 + 1, 2, none⟩ = some (.int .i64 i)) (first | (with_reducible exact K0.out) | (with_reducible exact K1.out) | (with_reducible exact K2.out)) (first | (go_at_call 21; (with_reducible refine Ha.out.mono ?_); rintro e w12 ⟨A1o, m1o, c1o, s1o, rfl, hm1o, hl1o, hb1o, hv1o, hB2⟩; have k1 := HX.out.below hB2; have K1 := Lib.hid (And.intro k1.c0 (And.intro k1.c1 k1.c2)); have hc1 := dcmp_l oo false (some ⟨w1.heap.size, 0, none⟩) 1 1 [a] i false A1o m1o c1o s1o 0 w12 (HXl.out.below hB2) hl1o (by decide) (by omega) (HT.out.below hB2) (by show _ = _; rw [lval_one, hv1o]; exact HO.out); have Hc1 := Lib.hid hc1; have HB2 := Lib.hid hB2; clear hl1o hb1o hv1o hB2 hc1 k1) | (go_at_call 20; (with_reducible refine Hc1.out.mono ?_); rintro e w13 ⟨rfl, hB3⟩; have k2 := (HX.out.below HB2.out).below hB3; have K2 := Lib.hid (And.intro k2.c0 (And.intro k2.c1 k2.c2)); have HB3 := Lib.hid hB3; clear hB3 k2))
  all_goals (
    clear K0 K1 K2 Ha Hc1
    have bc := HB2.out.trans (HB3.out.mono HB2.out.size)
    replace HT : Hid (Tab w13) := HT.out.below bc
    replace HXl : Hid (Lim w13 (some ⟨w1.heap.size, 0, none⟩) 1 1 [a]) := HXl.out.below bc
    replace HX : Hid (Bd w13 (w1.heap.size + 1 + 1) 32 false (some ⟨w1.heap.size, 0, none⟩) 1 1 i) := HX.out.below bc
    replace HPl : Hid (Lim w13 Ap mp cp ps) := HPl.out.below bc
    replace HP : Hid (Bd w13 w2.heap.size 32 gp Ap mp cp Ep) := HP.out.below bc
    replace HLl : Hid (Lim w13 A3a m3a c3a s3a) := HLl.out.below bc
    replace HHl : Hid (Lim w13 A3b m3b c3b s3b) := HHl.out.below bc
    replace HIl : Hid (Ib w13 w3.heap.size g3a A3a m3a c3a e3a g3b A3b m3b c3b e3b) := HIl.out.below bc
    replace HS := Lib.hid (HS.out.trans (bc.mono HS.out.size))
    clear bc HB2 HB3
    rcases Int.lt_trichotomy oo 0 with ho | ho | ho
    · have d5 : decide (oo < (0 : Int)) = true := decide_eq_true (by omega)
      have d6 : decide ((0 : Int) < oo) = false := decide_eq_false (by omega)
      have HIl_0 := HIl.out.x0
      have HIl_1 := HIl.out.x1
      have HIl_2 := HIl.out.x2
      have HIl_3 := HIl.out.x3
      have HIl_4 := HIl.out.x4
      have HIl_5 := HIl.out.x5
      obtain ⟨vf, hvf⟩ : ∃ v, cmpI Ll 0 = v := ⟨_, rfl⟩
      have cvf : decide (vf ≤ (0 : Int)) = true := by rw [← hvf]; exact decide_eq_true (cmpI_down (rules_down HD.out.2.1.1 HQl.out.1 (by rw [HD.out.2.2.1.1, ← rat_one]; exact rat_of_cmp (by rw [HO.out]; omega))))
      have H7 := Lib.hid (sign_l vf g3a A3a m3a c3a s3a e3a w13 HLl.out (by omega) (by show _ = _; rw [← hvf]; exact un_sg HQl.out.2.1))
      clear hvf
      go_wp2_with fail
      refine H7.out.mono ?_
      rintro e w14 ⟨rfl, hB⟩
      clear HIl_0 HIl_1 HIl_2 HIl_3 HIl_4 HIl_5
      replace HT : Hid (Tab w14) := HT.out.below hB
      replace HXl : Hid (Lim w14 (some ⟨w1.heap.size, 0, none⟩) 1 1 [a]) := HXl.out.below hB
      replace HX : Hid (Bd w14 (w1.heap.size + 1 + 1) 32 false (some ⟨w1.heap.size, 0, none⟩) 1 1 i) := HX.out.below hB
      replace HPl : Hid (Lim w14 Ap mp cp ps) := HPl.out.below hB
      replace HP : Hid (Bd w14 w2.heap.size 32 gp Ap mp cp Ep) := HP.out.below hB
      replace HLl : Hid (Lim w14 A3a m3a c3a s3a) := HLl.out.below hB
      replace HHl : Hid (Lim w14 A3b m3b c3b s3b) := HHl.out.below hB
      replace HIl : Hid (Ib w14 w3.heap.size g3a A3a m3a c3a e3a g3b A3b m3b c3b e3b) := HIl.out.below hB
      replace HS := Lib.hid (HS.out.trans (hB.mono HS.out.size))
      clear hB H7
      have HP_0 := HP.out.c0
      have HP_1 := HP.out.c1
      have HP_2 := HP.out.c2
      obtain ⟨bp, hbp⟩ : ∃ b, blen (val ps) = b := ⟨_, rfl⟩
      have hbp0 : 0 < bp := by rw [← hbp]; exact blen_pos (by rw [HPv.out.2]; exact HD.out.2.2.2.2.2)
      have d7 : decide ((0 : Int) < (bp : Int)) = true := decide_eq_true (by omega)
      have d8 : decide (0 < bp) = true := decide_eq_true hbp0
      have H8 := Lib.hid (bits_l bp Ap mp cp ps w14 HPl.out (by omega) hbp)
      clear hbp hbp0 ho
      go_wp2_with fail
      refine H8.out.mono ?_
      rintro e w' ⟨rfl, rfl⟩
      have Hfin := Lib.hid HS.out
      clear HP_0 HP_1 HP_2
      clear H8 HS HD HO HQl HBl HPv HT HXl HX HPl HP HLl HHl HIl
      go_wp2
      go_ret
      exact ⟨rfl, Hfin.out⟩
    · have d5 : decide (oo < (0 : Int)) = false := decide_eq_false (by omega)
      have d6 : decide ((0 : Int) < oo) = false := decide_eq_false (by omega)
      have HIl_0 := HIl.out.x0
      have HIl_1 := HIl.out.x1
      have HIl_2 := HIl.out.x2
      have HIl_3 := HIl.out.x3
      have HIl_4 := HIl.out.x4
      have HIl_5 := HIl.out.x5
      obtain ⟨ve, hve⟩ : ∃ v, cmpI Ul 0 = v := ⟨_, rfl⟩
      have cve : decide ((0 : Int) ≤ ve) = true := by rw [← hve]; exact decide_eq_true (cmpI_up (rules_up HD.out.2.1.1 HQl.out.1 (by rw [HD.out.2.2.1.1, ← rat_one]; exact rat_of_cmp' (by rw [HO.out]; omega))))
      have H7 := Lib.hid (sign_l ve g3b A3b m3b c3b s3b e3b w13 HHl.out (by omega) (by show _ = _; rw [← hve]; exact un_sg HQl.out.2.2))
      clear hve
      go_wp2_with fail
      refine H7.out.mono ?_
      rintro e w14 ⟨rfl, hB⟩
      clear HIl_0 HIl_1 HIl_2 HIl_3 HIl_4 HIl_5
      replace HT : Hid (Tab w14) := HT.out.below hB
      replace HXl : Hid (Lim w14 (some ⟨w1.heap.size, 0, none⟩) 1 1 [a]) := HXl.out.below hB
      replace HX : Hid (Bd w14 (w1.heap.size + 1 + 1) 32 false (some ⟨w1.heap.size, 0, none⟩) 1 1 i) := HX.out.below hB
      replace HPl : Hid (Lim w14 Ap mp cp ps) := HPl.out.below hB
      replace HP : Hid (Bd w14 w2.heap.size 32 gp Ap mp cp Ep) := HP.out.below hB
      replace HLl : Hid (Lim w14 A3a m3a c3a s3a) := HLl.out.below hB
      replace HHl : Hid (Lim w14 A3b m3b c3b s3b) := HHl.out.below hB
      replace HIl : Hid (Ib w14 w3.heap.size g3a A3a m3a c3a e3a g3b A3b m3b c3b e3b) := HIl.out.below hB
      replace HS := Lib.hid (HS.out.trans (hB.mono HS.out.size))
      clear hB H7
      have HIl_0 := HIl.out.x0
      have HIl_1 := HIl.out.x1
      have HIl_2 := HIl.out.x2
      have HIl_3 := HIl.out.x3
      have HIl_4 := HIl.out.x4
      have HIl_5 := HIl.out.x5
      obtain ⟨vf, hvf⟩ : ∃ v, cmpI Ll 0 = v := ⟨_, rfl⟩
      have cvf : decide (vf ≤ (0 : Int)) = true := by rw [← hvf]; exact decide_eq_true (cmpI_down (rules_down HD.out.2.1.1 HQl.out.1 (by rw [HD.out.2.2.1.1, ← rat_one]; exact rat_of_cmp (by rw [HO.out]; omega))))
      have H7 := Lib.hid (sign_l vf g3a A3a m3a c3a s3a e3a w14 HLl.out (by omega) (by show _ = _; rw [← hvf]; exact un_sg HQl.out.2.1))
      clear hvf
      go_wp2_with fail
      refine H7.out.mono ?_
      rintro e w15 ⟨rfl, hB⟩
      clear HIl_0 HIl_1 HIl_2 HIl_3 HIl_4 HIl_5
      replace HT : Hid (Tab w15) := HT.out.below hB
      replace HXl : Hid (Lim w15 (some ⟨w1.heap.size, 0, none⟩) 1 1 [a]) := HXl.out.below hB
      replace HX : Hid (Bd w15 (w1.heap.size + 1 + 1) 32 false (some ⟨w1.heap.size, 0, none⟩) 1 1 i) := HX.out.below hB
      replace HPl : Hid (Lim w15 Ap mp cp ps) := HPl.out.below hB
      replace HP : Hid (Bd w15 w2.heap.size 32 gp Ap mp cp Ep) := HP.out.below hB
      replace HLl : Hid (Lim w15 A3a m3a c3a s3a) := HLl.out.below hB
      replace HHl : Hid (Lim w15 A3b m3b c3b s3b) := HHl.out.below hB
      replace HIl : Hid (Ib w15 w3.heap.size g3a A3a m3a c3a e3a g3b A3b m3b c3b e3b) := HIl.out.below hB
      replace HS := Lib.hid (HS.out.trans (hB.mono HS.out.size))
      clear hB H7
      have HP_0 := HP.out.c0
      have HP_1 := HP.out.c1
      have HP_2 := HP.out.c2
      obtain ⟨bp, hbp⟩ : ∃ b, blen (val ps) = b := ⟨_, rfl⟩
      have hbp0 : 0 < bp := by rw [← hbp]; exact blen_pos (by rw [HPv.out.2]; exact HD.out.2.2.2.2.2)
      have d7 : decide ((0 : Int) < (bp : Int)) = true := decide_eq_true (by omega)
      have d8 : decide (0 < bp) = true := decide_eq_true hbp0
      have H8 := Lib.hid (bits_l bp Ap mp cp ps w15 HPl.out (by omega) hbp)
      clear hbp hbp0 ho
      go_wp2_with fail
      refine H8.out.mono ?_
      rintro e w' ⟨rfl, rfl⟩
      have Hfin := Lib.hid HS.out
      clear HP_0 HP_1 HP_2
      clear H8 HS HD HO HQl HBl HPv HT HXl HX HPl HP HLl HHl HIl
      go_wp2
      go_ret
      exact ⟨rfl, Hfin.out⟩
    · have d5 : decide (oo < (0 : Int)) = false := decide_eq_false (by omega)
      have d6 : decide ((0 : Int) < oo) = true := decide_eq_true (by omega)
      have HIl_0 := HIl.out.x0
      have HIl_1 := HIl.out.x1
      have HIl_2 := HIl.out.x2
      have HIl_3 := HIl.out.x3
      have HIl_4 := HIl.out.x4
      have HIl_5 := HIl.out.x5
      obtain ⟨ve, hve⟩ : ∃ v, cmpI Ul 0 = v := ⟨_, rfl⟩
      have cve : decide ((0 : Int) ≤ ve) = true := by rw [← hve]; exact decide_eq_true (cmpI_up (rules_up HD.out.2.1.1 HQl.out.1 (by rw [HD.out.2.2.1.1, ← rat_one]; exact rat_of_cmp' (by rw [HO.out]; omega))))
      have H7 := Lib.hid (sign_l ve g3b A3b m3b c3b s3b e3b w13 HHl.out (by omega) (by show _ = _; rw [← hve]; exact un_sg HQl.out.2.2))
      clear hve
      go_wp2_with fail
      refine H7.out.mono ?_
      rintro e w14 ⟨rfl, hB⟩
      clear HIl_0 HIl_1 HIl_2 HIl_3 HIl_4 HIl_5
      replace HT : Hid (Tab w14) := HT.out.below hB
      replace HXl : Hid (Lim w14 (some ⟨w1.heap.size, 0, none⟩) 1 1 [a]) := HXl.out.below hB
      replace HX : Hid (Bd w14 (w1.heap.size + 1 + 1) 32 false (some ⟨w1.heap.size, 0, none⟩) 1 1 i) := HX.out.below hB
      replace HPl : Hid (Lim w14 Ap mp cp ps) := HPl.out.below hB
      replace HP : Hid (Bd w14 w2.heap.size 32 gp Ap mp cp Ep) := HP.out.below hB
      replace HLl : Hid (Lim w14 A3a m3a c3a s3a) := HLl.out.below hB
      replace HHl : Hid (Lim w14 A3b m3b c3b s3b) := HHl.out.below hB
      replace HIl : Hid (Ib w14 w3.heap.size g3a A3a m3a c3a e3a g3b A3b m3b c3b e3b) := HIl.out.below hB
      replace HS := Lib.hid (HS.out.trans (hB.mono HS.out.size))
      clear hB H7
      have HP_0 := HP.out.c0
      have HP_1 := HP.out.c1
      have HP_2 := HP.out.c2
      obtain ⟨bp, hbp⟩ : ∃ b, blen (val ps) = b := ⟨_, rfl⟩
      have hbp0 : 0 < bp := by rw [← hbp]; exact blen_pos (by rw [HPv.out.2]; exact HD.out.2.2.2.2.2)
      have d7 : decide ((0 : Int) < (bp : Int)) = true := decide_eq_true (by omega)
      have d8 : decide (0 < bp) = true := decide_eq_true hbp0
      have H8 := Lib.hid (bits_l bp Ap mp cp ps w14 HPl.out (by omega) hbp)
      clear hbp hbp0 ho
      go_wp2_with fail
      refine H8.out.mono ?_
      rintro e w' ⟨rfl, rfl⟩
      have Hfin := Lib.hid HS.out
      clear HP_0 HP_1 HP_2
      clear H8 HS HD HO HQl HBl HPv HT HXl HX HPl HP HLl HHl HIl
      go_wp2
      go_ret
      exact ⟨rfl, Hfin.out⟩)

theorem walk_logsRules (a b i k s : Int) (w : World) (hT : Tab w) (ha1 : 0 ≤ a) (ha2 : a ≤ 18446744073709551615) (hb1 : 0 ≤ b) (hb2 : b ≤ 18446744073709551615) (hi1 : -128 ≤ i) (hi2 : i ≤ 127) (hk1 : -128 ≤ k) (hk2 : k ≤ 127) (hs1 : 0 ≤ s) (hs2 : s ≤ 255) :
    Calls Tryd.prog 4 #[.int .u64 a, .int .u64 b, .int .i8 i, .int .i8 k, .int .u8 s] w fun e w' => e = .returned (.bool true) ∧ Below w.heap.size w w' := by
  obtain ⟨x, rfl⟩ := Int.eq_ofNat_of_zero_le ha1
  obtain ⟨y, rfl⟩ := Int.eq_ofNat_of_zero_le hb1
  obtain ⟨z, rfl⟩ := Int.eq_ofNat_of_zero_le hs1
  by_cases h0 : x = 0 ∨ y = 0
  · exact lrules_nought x y z i k w hT h0
  rcases Int.lt_trichotomy (cmpI (dw false x i) (dw false y k)) 0 with h | h | h
  · exact lrules_lt x y z i k w hT (by omega) (by omega) (by omega) (by omega) hi1 hi2 hk1 hk2 (by omega) h
  · exact lrules_eq x y z i k w hT (by omega) (by omega) (by omega) (by omega) hi1 hi2 hk1 hk2 (by omega) h
  · exact lrules_gt x y z i k w hT (by omega) (by omega) (by omega) (by omega) hi1 hi2 hk1 hk2 (by omega) h
end Go.Proofs.YtpbggonfdaealaaDoor
