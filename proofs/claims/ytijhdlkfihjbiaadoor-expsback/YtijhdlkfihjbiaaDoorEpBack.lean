/- The walk of the law ExpsBack (written by law_eback.py). -/
import Derived.Test.YtijhdlkfihjbiaaDoorEpAlive
import Derived.Test.YtijhdlkfihjbiaaDoorLgLaw
import Derived.Test.YtijhdlkfihjbiaaDoorLgLogW
namespace Go.Proofs.YtijhdlkfihjbiaaDoor
open Go.RowKit

theorem efar_up {L : Int} {s : Nat} (h : L.natAbs < 2 ^ (s + 30)) : L.natAbs < 2 ^ (s + 64) := Nat.lt_of_lt_of_le h (Nat.pow_le_pow_right (by decide) (by omega))
theorem eval_one (x : Nat) : val [x] = x := by simp [val]
theorem back_dyad {a : Nat} {n : Int} (h0 : a ≠ 0) (ha : a < 18446744073709551616) (h1 : -1000 < n) (h2 : n < 1000) :
    ∃ d, mk false a n = some d ∧ LogD d ∧ rat false d.V d.e = rat false a n ∧ -1064 ≤ (blen d.V : Int) - 1 + d.e ∧ (blen d.V : Int) - 1 + d.e ≤ 1064 := by
  have b1 : blen a ≤ 64 := blen_le_iff.2 ha
  have b2 := blen_pos h0
  obtain ⟨d, hd⟩ := mk_some (g := false) (V := a) (e := n) (by omega) (by omega) (fun _ => by omega)
  obtain ⟨ld, rd, nd, ld2⟩ := logd_of hd h0 (by omega) (by omega) (by omega)
  obtain ⟨k1, k2, k3, _⟩ := mk_fine hd
  rw [nd] at k2
  have e1 : sz d.V d.e = sz a n := by
    have h : ((sz d.V d.e : Nat) : Int) = ((sz a n : Nat) : Int) := k2
    omega
  have t1 := blen_sz d.e ld.2.2.1
  have t2 := blen_sz n h0
  rw [e1] at t1
  unfold topD at t1 t2
  rw [k1.held] at t1
  rw [held_id (by omega) (by omega)] at t2
  exact ⟨d, hd, ld, rd, by omega, by omega⟩
theorem epw_same {z : Nat} {l h l' h' : Dy} (e1 : dw l.neg l.V l.e = dw l'.neg l'.V l'.e) (e2 : dw h.neg h.V h.e = dw h'.neg h'.V h'.e) {k : Int} {a b c d : Nat} (hw : EpW z l h k a b c d) : EpW z l' h' k a b c d := by
  unfold EpW flU clU at hw ⊢
  rw [← e1, ← e2]
  exact hw
/-- What the first interval is. -/
theorem back_one {d lo hi X Y : Dy} {z : Nat} {Lq Hq r : Int} {m1 m2 : Nat} (hz1 : 32 ≤ z) (hz2 : z ≤ 287) (hd : LogD d) (h1 : -1064 ≤ (blen d.V : Int) - 1 + d.e) (h2 : (blen d.V : Int) - 1 + d.e ≤ 1064) (hv : LogV d z Lq Hq) (ul : Un z Lq lo) (uh : Un z Hq hi) (h : ExpP lo.neg lo.V lo.e hi.neg hi.V hi.e (z : Int) X Y r m1 m2) :
    r = 0 ∧ (rat X.neg X.V X.e ≤ rat false d.V d.e ∧ rat false d.V d.e ≤ rat Y.neg Y.V Y.e) ∧ Hq.natAbs ≤ 2400 * 2 ^ z ∧ ∃ l' h' k, (Fine l' ∧ Mid l' ∧ dw l'.neg l'.V l'.e ≤ dw h'.neg h'.V h'.e ∧ dw h'.neg h'.V h'.e = dw hi.neg hi.V hi.e) ∧ EpV z l' h' k X Y := by
  have hf := log_far hd (by omega) (by omega) hv
  obtain ⟨l', hl⟩ := un_mkd ul (by omega) (efar_up hf.1) lo.neg
  obtain ⟨h', hh⟩ := un_mkd uh (by omega) (efar_up hf.2) hi.neg
  have ul' := un_made ul hl
  have uh' := un_made uh hh
  obtain ⟨g1, g2, g3, g4, g5, g6⟩ := back_first hz1 hz2 hd hv ul' uh' h1 h2
  obtain ⟨h0, k, hE⟩ := expp_ok hl hh g1 g2 g3 (by omega) (by omega) g6 h
  obtain ⟨q1, q2⟩ := back_in (by omega) (by omega) hd hv ul' uh' g1 hE
  exact ⟨h0, ⟨q1, q2⟩, g5, l', h', k, ⟨ul'.1, g1, g3, (mk_fine hh).2.1⟩, hE⟩
/-- What the second one is. -/
theorem back_two {hi X Y : Dy} {z n : Nat} {Hq r : Int} {m1 m2 : Nat} {m : Dy} (hz1 : 32 ≤ z) (hz2 : z ≤ 287) (uh : Un z Hq hi) (hH : Hq.natAbs ≤ 2400 * 2 ^ z) (hn : n < 4096) (hm : addO (mk hi.neg hi.V hi.e) (mk false n (-12)) = some m) (h : ExpP m.neg m.V m.e m.neg m.V m.e (z : Int) X Y r m1 m2)
    {l' h' X0 Y0 : Dy} {k : Int} (fl : Fine l') (ml : Mid l') (hle : dw l'.neg l'.V l'.e ≤ dw h'.neg h'.V h'.e) (hhi : dw h'.neg h'.V h'.e = dw hi.neg hi.V hi.e) (h0 : EpV z l' h' k X0 Y0) : r = 0 ∧ rat X0.neg X0.V X0.e ≤ rat Y.neg Y.V Y.e ∧ X.V ≠ 0 := by
  obtain ⟨m0, g1, g2, g3, g4, ⟨M, g5, g6⟩, g7⟩ := back_more hz1 hz2 uh hH hn
  rw [hm] at g1
  obtain rfl := Option.some.inj g1
  have e64 : 2 ^ (z + 64) = 2 ^ (z + 12) * 4503599627370496 := by rw [show z + 64 = (z + 12) + 52 by omega, Nat.pow_add]
  obtain ⟨m', hm'⟩ := un_mkd g5 (by omega) (by omega) m.neg
  have um' := un_made g5 hm'
  have ed := (mk_fine hm').2.1
  have mm := un_mid um' (by omega) g6
  obtain ⟨r0, k', hE⟩ := expp_ok hm' hm' mm mm (Int.le_refl _) (by omega) (by omega) (fun k a b c d hw => g7 k a b c d (epw_same ed ed hw)) h
  obtain ⟨q1, q2⟩ := back_up (by omega) (by omega) fl ml hle h0 um'.1 mm (by rw [hhi, ed]; exact g4) hE
  exact ⟨r0, q1, q2⟩

set_option maxHeartbeats 1000000 in
set_option maxRecDepth 20000 in
theorem eback_nought (e0 : Int) (b s : Nat) (w : World) (hT : Tab w) :
    Calls Tryd.prog 3 #[.int .u64 0, .int .i16 e0, .int .u64 (b : Int), .int .u8 (s : Int)] w fun e w' => e = .returned (.bool true) ∧ Below w.heap.size w w' := by
  have H1 := Lib.hid (ealive_any w hT)
  clear hT
  go_enter Tryd.func3, Tryd.ntmps3
  go_wp2_with fail
  refine H1.out.mono ?_
  rintro e w1 ⟨rfl, hB1⟩
  have Hfin := Lib.hid hB1
  clear hB1 H1
  go_wp2
  go_ret
  exact ⟨rfl, Hfin.out⟩

set_option maxHeartbeats 8000000 in
set_option maxRecDepth 20000 in
theorem eback_some (a b s : Nat) (e0 n : Int) (w : World) (hT : Tab w) (ha : a < 18446744073709551616) (hb : b < 18446744073709551616) (ha0 : a ≠ 0) (he1 : -32768 ≤ e0) (he2 : e0 ≤ 32767) (hn : e0.tmod 1000 = n) (hn1 : -1000 < n) (hn2 : n < 1000) (hs : s ≤ 255) :
    Calls Tryd.prog 3 #[.int .u64 (a : Int), .int .i16 e0, .int .u64 (b : Int), .int .u8 (s : Int)] w fun e w' => e = .returned (.bool true) ∧ Below w.heap.size w w' := by
  obtain ⟨dd, md, ld, rd, td1, td2⟩ := back_dyad ha0 ha hn1 hn2
  have H1 := Lib.hid (ealive_any w hT)
  have HT := Lib.hid hT
  have HS := Lib.hid (Below.refl w.heap.size w)
  have HD : Hid (mk false a n = some dd ∧ LogD dd ∧ rat false dd.V dd.e = rat false a n ∧ -1064 ≤ (blen dd.V : Int) - 1 + dd.e ∧ (blen dd.V : Int) - 1 + dd.e ≤ 1064) := ⟨md, ld, rd, td1, td2⟩
  have b0 : ((a : Int) == 0) = false := beq_no (by omega)
  obtain ⟨z, hz⟩ : ∃ z, 32 + s = z := ⟨_, rfl⟩
  have ez : (32 : Int) + (s : Int) = (z : Int) := by omega
  have hz9 : z ≤ 287 := by omega
  have hz8 : 32 ≤ z := by omega
  obtain ⟨rb, hrb⟩ : ∃ r, b % 4096 = r := ⟨_, rfl⟩
  have hrb9 : rb < 4096 := by omega
  have erb : (b : Int) % 4096 = (rb : Int) := by omega
  have erb2 : (b : Int).tmod 4096 = (rb : Int) := by rw [Int.tmod_eq_emod_of_nonneg (by omega)]; exact erb
  have HAB : Hid (a < 18446744073709551616) := ha
  clear hT md ld rd td1 td2 hz ha0 ha
  go_enter Tryd.func3, Tryd.ntmps3
  go_wp2_with fail
  refine H1.out.mono ?_
  rintro e w1 ⟨rfl, hB⟩
  replace HT : Hid (Tab w1) := HT.out.below hB
  replace HS := Lib.hid (HS.out.trans (hB.mono HS.out.size))
  clear hB H1
  have ln := lim_new1 w1 22 a (a : Int) rfl HAB.out
  have ba := below1 w1 (.cells #[.int .u64 (a : Int)] 22)
  replace HT : Hid (Tab (w1.alloc (.cells #[.int .u64 (a : Int)] 22))) := HT.out.below ba
  replace HS := Lib.hid (HS.out.trans (ba.mono HS.out.size))
  have HXl : Hid (Lim (w1.alloc (.cells #[.int .u64 (a : Int)] 22)) (some ⟨w1.heap.size, 0, none⟩) 1 1 [a]) := ln
  clear ba ln HAB
  have nd := Bd.new (w1.alloc (.cells #[.int .u64 (a : Int)] 22)) 27 false (some ⟨w1.heap.size, 0, none⟩) 1 1 n
  rw [World.size_alloc] at nd
  have ba := below1 (w1.alloc (.cells #[.int .u64 (a : Int)] 22)) (.cells #[.bool false, .slice (some ⟨w1.heap.size, 0, none⟩) 1 1, .int .i64 n] 27)
  replace HT : Hid (Tab ((w1.alloc (.cells #[.int .u64 (a : Int)] 22)).alloc (.cells #[.bool false, .slice (some ⟨w1.heap.size, 0, none⟩) 1 1, .int .i64 n] 27))) := HT.out.below ba
  replace HXl : Hid (Lim ((w1.alloc (.cells #[.int .u64 (a : Int)] 22)).alloc (.cells #[.bool false, .slice (some ⟨w1.heap.size, 0, none⟩) 1 1, .int .i64 n] 27)) (some ⟨w1.heap.size, 0, none⟩) 1 1 [a]) := HXl.out.below ba
  replace HS := Lib.hid (HS.out.trans (ba.mono HS.out.size))
  have HX : Hid (Bd ((w1.alloc (.cells #[.int .u64 (a : Int)] 22)).alloc (.cells #[.bool false, .slice (some ⟨w1.heap.size, 0, none⟩) 1 1, .int .i64 n] 27)) (w1.heap.size + 1) 27 false (some ⟨w1.heap.size, 0, none⟩) 1 1 n) := nd
  clear ba nd
  have H2 := log_lg false (some ⟨w1.heap.size, 0, none⟩) 1 1 [a] n (z : Int) ((w1.alloc (.cells #[.int .u64 (a : Int)] 22)).alloc (.cells #[.bool false, .slice (some ⟨w1.heap.size, 0, none⟩) 1 1, .int .i64 n] 27)) HXl.out (by omega) HT.out (by omega) (by omega)
  rw [eval_one] at H2
  replace H2 := Lib.hid H2
  have HX_0 := HX.out.c0
  have HX_1 := HX.out.c1
  have HX_2 := HX.out.c2
  go_wp2_with fail
  refine H2.out.mono ?_
  rintro e w2 ⟨g2a, A2a, m2a, c2a, s2a, e2a, g2b, A2b, m2b, c2b, s2b, e2b, r2, rfl, hm2a, hm2b, hl2a, hl2b, hb2a, hb2b, hB, hq⟩
  clear HX_0 HX_1 HX_2
  replace HT : Hid (Tab w2) := HT.out.below hB
  replace HXl : Hid (Lim w2 (some ⟨w1.heap.size, 0, none⟩) 1 1 [a]) := HXl.out.below hB
  replace HX : Hid (Bd w2 (w1.heap.size + 1) 27 false (some ⟨w1.heap.size, 0, none⟩) 1 1 n) := HX.out.below hB
  replace HS := Lib.hid (HS.out.trans (hB.mono HS.out.size))
  have HLi : Hid (Lim w2 A2a m2a c2a s2a) := hl2a
  have HHi : Hid (Lim w2 A2b m2b c2b s2b) := hl2b
  have HBi : Hid (Bare s2a ∧ Bare s2b) := ⟨hb2a, hb2b⟩
  obtain ⟨rfl, Lq, Uq, hV, hLU, hUU⟩ := logp_yes hq HD.out.1 HD.out.2.1 (by omega) (by omega)
  rw [Int.toNat_natCast] at hV hLU hUU
  have HQ : Hid (LogV dd z Lq Uq ∧ Un z Lq ⟨g2a, val s2a, e2a⟩ ∧ Un z Uq ⟨g2b, val s2b, e2b⟩) := ⟨hV, hLU, hUU⟩
  clear hV hLU hUU
  clear hl2a hl2b hb2a hb2b hB hq H2
  have ba := below1 w2 (.cells #[.bool g2a, .slice A2a m2a c2a, .int .i64 e2a, .bool g2b, .slice A2b m2b c2b, .int .i64 e2b] 29)
  replace HT : Hid (Tab (w2.alloc (.cells #[.bool g2a, .slice A2a m2a c2a, .int .i64 e2a, .bool g2b, .slice A2b m2b c2b, .int .i64 e2b] 29))) := HT.out.below ba
  replace HXl : Hid (Lim (w2.alloc (.cells #[.bool g2a, .slice A2a m2a c2a, .int .i64 e2a, .bool g2b, .slice A2b m2b c2b, .int .i64 e2b] 29)) (some ⟨w1.heap.size, 0, none⟩) 1 1 [a]) := HXl.out.below ba
  replace HX : Hid (Bd (w2.alloc (.cells #[.bool g2a, .slice A2a m2a c2a, .int .i64 e2a, .bool g2b, .slice A2b m2b c2b, .int .i64 e2b] 29)) (w1.heap.size + 1) 27 false (some ⟨w1.heap.size, 0, none⟩) 1 1 n) := HX.out.below ba
  replace HLi : Hid (Lim (w2.alloc (.cells #[.bool g2a, .slice A2a m2a c2a, .int .i64 e2a, .bool g2b, .slice A2b m2b c2b, .int .i64 e2b] 29)) A2a m2a c2a s2a) := HLi.out.below ba
  replace HHi : Hid (Lim (w2.alloc (.cells #[.bool g2a, .slice A2a m2a c2a, .int .i64 e2a, .bool g2b, .slice A2b m2b c2b, .int .i64 e2b] 29)) A2b m2b c2b s2b) := HHi.out.below ba
  replace HS := Lib.hid (HS.out.trans (ba.mono HS.out.size))
  clear ba
  have HIi : Hid (Ib (w2.alloc (.cells #[.bool g2a, .slice A2a m2a c2a, .int .i64 e2a, .bool g2b, .slice A2b m2b c2b, .int .i64 e2b] 29)) w2.heap.size g2a A2a m2a c2a e2a g2b A2b m2b c2b e2b) := Ib.new w2 g2a A2a m2a c2a e2a g2b A2b m2b c2b e2b
  have HIi_0 := HIi.out.x0
  have HIi_1 := HIi.out.x1
  have HIi_2 := HIi.out.x2
  have HIi_3 := HIi.out.x3
  have HIi_4 := HIi.out.x4
  have HIi_5 := HIi.out.x5
  have H3 := Lib.hid (exp_l g2a A2a m2a c2a s2a e2a g2b A2b m2b c2b s2b e2b (z : Int) (w2.alloc (.cells #[.bool g2a, .slice A2a m2a c2a, .int .i64 e2a, .bool g2b, .slice A2b m2b c2b, .int .i64 e2b] 29)) HLi.out HHi.out (by omega) (by omega) HT.out (by omega))
  go_wp2_with fail
  refine H3.out.mono ?_
  rintro e w3 ⟨g3a, A3a, m3a, c3a, s3a, e3a, g3b, A3b, m3b, c3b, s3b, e3b, r3, rfl, hm3a, hm3b, hl3a, hl3b, hb3a, hb3b, hB, hq⟩
  clear HIi_0 HIi_1 HIi_2 HIi_3 HIi_4 HIi_5
  replace HT : Hid (Tab w3) := HT.out.below hB
  replace HXl : Hid (Lim w3 (some ⟨w1.heap.size, 0, none⟩) 1 1 [a]) := HXl.out.below hB
  replace HX : Hid (Bd w3 (w1.heap.size + 1) 27 false (some ⟨w1.heap.size, 0, none⟩) 1 1 n) := HX.out.below hB
  replace HLi : Hid (Lim w3 A2a m2a c2a s2a) := HLi.out.below hB
  replace HHi : Hid (Lim w3 A2b m2b c2b s2b) := HHi.out.below hB
  replace HIi : Hid (Ib w3 w2.heap.size g2a A2a m2a c2a e2a g2b A2b m2b c2b e2b) := HIi.out.below hB
  replace HS := Lib.hid (HS.out.trans (hB.mono HS.out.size))
  have HLx : Hid (Lim w3 A3a m3a c3a s3a) := hl3a
  have HHx : Hid (Lim w3 A3b m3b c3b s3b) := hl3b
  have HBx : Hid (Bare s3a ∧ Bare s3b) := ⟨hb3a, hb3b⟩
  obtain ⟨rfl, hq1, hq2, l1, h1, k1, hq3, hq4⟩ := back_one (lo := ⟨g2a, val s2a, e2a⟩) (hi := ⟨g2b, val s2b, e2b⟩) hz8 hz9 HD.out.2.1 HD.out.2.2.2.1 HD.out.2.2.2.2 HQ.out.1 HQ.out.2.1 HQ.out.2.2 hq
  dsimp only at hq1 hq3
  have HR : Hid ((rat g3a (val s3a) e3a ≤ rat false dd.V dd.e ∧ rat false dd.V dd.e ≤ rat g3b (val s3b) e3b) ∧ Uq.natAbs ≤ 2400 * 2 ^ z ∧ (Fine l1 ∧ Mid l1 ∧ dw l1.neg l1.V l1.e ≤ dw h1.neg h1.V h1.e ∧ dw h1.neg h1.V h1.e = dw g2b (val s2b) e2b) ∧ EpV z l1 h1 k1 ⟨g3a, val s3a, e3a⟩ ⟨g3b, val s3b, e3b⟩) := ⟨hq1, hq2, hq3, hq4⟩
  clear hq1 hq2 hq3 hq4
  clear hl3a hl3b hb3a hb3b hB hq H3
  have ba := below1 w3 (.cells #[.bool g3a, .slice A3a m3a c3a, .int .i64 e3a, .bool g3b, .slice A3b m3b c3b, .int .i64 e3b] 29)
  replace HT : Hid (Tab (w3.alloc (.cells #[.bool g3a, .slice A3a m3a c3a, .int .i64 e3a, .bool g3b, .slice A3b m3b c3b, .int .i64 e3b] 29))) := HT.out.below ba
  replace HXl : Hid (Lim (w3.alloc (.cells #[.bool g3a, .slice A3a m3a c3a, .int .i64 e3a, .bool g3b, .slice A3b m3b c3b, .int .i64 e3b] 29)) (some ⟨w1.heap.size, 0, none⟩) 1 1 [a]) := HXl.out.below ba
  replace HX : Hid (Bd (w3.alloc (.cells #[.bool g3a, .slice A3a m3a c3a, .int .i64 e3a, .bool g3b, .slice A3b m3b c3b, .int .i64 e3b] 29)) (w1.heap.size + 1) 27 false (some ⟨w1.heap.size, 0, none⟩) 1 1 n) := HX.out.below ba
  replace HLi : Hid (Lim (w3.alloc (.cells #[.bool g3a, .slice A3a m3a c3a, .int .i64 e3a, .bool g3b, .slice A3b m3b c3b, .int .i64 e3b] 29)) A2a m2a c2a s2a) := HLi.out.below ba
  replace HHi : Hid (Lim (w3.alloc (.cells #[.bool g3a, .slice A3a m3a c3a, .int .i64 e3a, .bool g3b, .slice A3b m3b c3b, .int .i64 e3b] 29)) A2b m2b c2b s2b) := HHi.out.below ba
  replace HIi : Hid (Ib (w3.alloc (.cells #[.bool g3a, .slice A3a m3a c3a, .int .i64 e3a, .bool g3b, .slice A3b m3b c3b, .int .i64 e3b] 29)) w2.heap.size g2a A2a m2a c2a e2a g2b A2b m2b c2b e2b) := HIi.out.below ba
  replace HLx : Hid (Lim (w3.alloc (.cells #[.bool g3a, .slice A3a m3a c3a, .int .i64 e3a, .bool g3b, .slice A3b m3b c3b, .int .i64 e3b] 29)) A3a m3a c3a s3a) := HLx.out.below ba
  replace HHx : Hid (Lim (w3.alloc (.cells #[.bool g3a, .slice A3a m3a c3a, .int .i64 e3a, .bool g3b, .slice A3b m3b c3b, .int .i64 e3b] 29)) A3b m3b c3b s3b) := HHx.out.below ba
  replace HS := Lib.hid (HS.out.trans (ba.mono HS.out.size))
  clear ba
  have HIx : Hid (Ib (w3.alloc (.cells #[.bool g3a, .slice A3a m3a c3a, .int .i64 e3a, .bool g3b, .slice A3b m3b c3b, .int .i64 e3b] 29)) w3.heap.size g3a A3a m3a c3a e3a g3b A3b m3b c3b e3b) := Ib.new w3 g3a A3a m3a c3a e3a g3b A3b m3b c3b e3b
  obtain ⟨va, hva⟩ : ∃ v, cmpI (dw g3a (val s3a) e3a) (dw false a n) = v := ⟨_, rfl⟩
  obtain ⟨vb, hvb⟩ : ∃ v, cmpI (dw g3b (val s3b) e3b) (dw false a n) = v := ⟨_, rfl⟩
  have cva : decide ((0 : Int) < va) = false := decide_eq_false (by have h := cmp_notup (show rat g3a (val s3a) e3a ≤ rat false a n by rw [← HD.out.2.2.1]; exact HR.out.1.1); omega)
  have cvb : decide (vb < (0 : Int)) = false := decide_eq_false (by have h := cmp_notdown (show rat false a n ≤ rat g3b (val s3b) e3b by rw [← HD.out.2.2.1]; exact HR.out.1.2); omega)
  have HVa := Lib.hid hva
  have HVb := Lib.hid hvb
  clear hva hvb
  have HIx_0 := HIx.out.x0
  have HIx_1 := HIx.out.x1
  have HIx_2 := HIx.out.x2
  have HIx_3 := HIx.out.x3
  have HIx_4 := HIx.out.x4
  have HIx_5 := HIx.out.x5
  have HX_0 := HX.out.c0
  have HX_1 := HX.out.c1
  have HX_2 := HX.out.c2
  have H4 := Lib.hid (dcmp_l va g3a A3a m3a c3a s3a e3a false (some ⟨w1.heap.size, 0, none⟩) 1 1 [a] n (w3.alloc (.cells #[.bool g3a, .slice A3a m3a c3a, .int .i64 e3a, .bool g3b, .slice A3b m3b c3b, .int .i64 e3b] 29)) HLx.out HXl.out (by omega) (by omega) HT.out (by show _ = _; rw [eval_one]; exact HVa.out))
  go_wp2_with fail
  refine H4.out.mono ?_
  rintro e w4 ⟨rfl, hB⟩
  clear HIx_0 HIx_1 HIx_2 HIx_3 HIx_4 HIx_5 HX_0 HX_1 HX_2
  replace HT : Hid (Tab w4) := HT.out.below hB
  replace HXl : Hid (Lim w4 (some ⟨w1.heap.size, 0, none⟩) 1 1 [a]) := HXl.out.below hB
  replace HX : Hid (Bd w4 (w1.heap.size + 1) 27 false (some ⟨w1.heap.size, 0, none⟩) 1 1 n) := HX.out.below hB
  replace HLi : Hid (Lim w4 A2a m2a c2a s2a) := HLi.out.below hB
  replace HHi : Hid (Lim w4 A2b m2b c2b s2b) := HHi.out.below hB
  replace HIi : Hid (Ib w4 w2.heap.size g2a A2a m2a c2a e2a g2b A2b m2b c2b e2b) := HIi.out.below hB
  replace HLx : Hid (Lim w4 A3a m3a c3a s3a) := HLx.out.below hB
  replace HHx : Hid (Lim w4 A3b m3b c3b s3b) := HHx.out.below hB
  replace HIx : Hid (Ib w4 w3.heap.size g3a A3a m3a c3a e3a g3b A3b m3b c3b e3b) := HIx.out.below hB
  replace HS := Lib.hid (HS.out.trans (hB.mono HS.out.size))
  clear hB H4
  have HIx_0 := HIx.out.x0
  have HIx_1 := HIx.out.x1
  have HIx_2 := HIx.out.x2
  have HIx_3 := HIx.out.x3
  have HIx_4 := HIx.out.x4
  have HIx_5 := HIx.out.x5
  have HX_0 := HX.out.c0
  have HX_1 := HX.out.c1
  have HX_2 := HX.out.c2
  have H5 := Lib.hid (dcmp_l vb g3b A3b m3b c3b s3b e3b false (some ⟨w1.heap.size, 0, none⟩) 1 1 [a] n w4 HHx.out HXl.out (by omega) (by omega) HT.out (by show _ = _; rw [eval_one]; exact HVb.out))
  go_wp2_with fail
  refine H5.out.mono ?_
  rintro e w5 ⟨rfl, hB⟩
  clear HIx_0 HIx_1 HIx_2 HIx_3 HIx_4 HIx_5 HX_0 HX_1 HX_2
  replace HT : Hid (Tab w5) := HT.out.below hB
  replace HXl : Hid (Lim w5 (some ⟨w1.heap.size, 0, none⟩) 1 1 [a]) := HXl.out.below hB
  replace HX : Hid (Bd w5 (w1.heap.size + 1) 27 false (some ⟨w1.heap.size, 0, none⟩) 1 1 n) := HX.out.below hB
  replace HLi : Hid (Lim w5 A2a m2a c2a s2a) := HLi.out.below hB
  replace HHi : Hid (Lim w5 A2b m2b c2b s2b) := HHi.out.below hB
  replace HIi : Hid (Ib w5 w2.heap.size g2a A2a m2a c2a e2a g2b A2b m2b c2b e2b) := HIi.out.below hB
  replace HLx : Hid (Lim w5 A3a m3a c3a s3a) := HLx.out.below hB
  replace HHx : Hid (Lim w5 A3b m3b c3b s3b) := HHx.out.below hB
  replace HIx : Hid (Ib w5 w3.heap.size g3a A3a m3a c3a e3a g3b A3b m3b c3b e3b) := HIx.out.below hB
  replace HS := Lib.hid (HS.out.trans (hB.mono HS.out.size))
  clear hB H5
  clear HX HXl
  clear HVa HVb HD
  have HIi_0 := HIi.out.x0
  have HIi_1 := HIi.out.x1
  have HIi_2 := HIi.out.x2
  have HIi_3 := HIi.out.x3
  have HIi_4 := HIi.out.x4
  have HIi_5 := HIi.out.x5
  clear HIi_0 HIi_1 HIi_2 HIi_3 HIi_4 HIi_5
  have k3 := HIi.out.x3
  have k4 := HIi.out.x4
  have k5 := HIi.out.x5
  have ln := lim_new1 w5 22 rb (rb : Int) rfl (by omega)
  have ba := below1 w5 (.cells #[.int .u64 (rb : Int)] 22)
  replace HT : Hid (Tab (w5.alloc (.cells #[.int .u64 (rb : Int)] 22))) := HT.out.below ba
  replace HLi : Hid (Lim (w5.alloc (.cells #[.int .u64 (rb : Int)] 22)) A2a m2a c2a s2a) := HLi.out.below ba
  replace HHi : Hid (Lim (w5.alloc (.cells #[.int .u64 (rb : Int)] 22)) A2b m2b c2b s2b) := HHi.out.below ba
  replace HIi : Hid (Ib (w5.alloc (.cells #[.int .u64 (rb : Int)] 22)) w2.heap.size g2a A2a m2a c2a e2a g2b A2b m2b c2b e2b) := HIi.out.below ba
  replace HLx : Hid (Lim (w5.alloc (.cells #[.int .u64 (rb : Int)] 22)) A3a m3a c3a s3a) := HLx.out.below ba
  replace HHx : Hid (Lim (w5.alloc (.cells #[.int .u64 (rb : Int)] 22)) A3b m3b c3b s3b) := HHx.out.below ba
  replace HIx : Hid (Ib (w5.alloc (.cells #[.int .u64 (rb : Int)] 22)) w3.heap.size g3a A3a m3a c3a e3a g3b A3b m3b c3b e3b) := HIx.out.below ba
  replace HS := Lib.hid (HS.out.trans (ba.mono HS.out.size))
  have HYl : Hid (Lim (w5.alloc (.cells #[.int .u64 (rb : Int)] 22)) (some ⟨w5.heap.size, 0, none⟩) 1 1 [rb]) := ln
  clear ba ln
  obtain ⟨mm, hmm, _⟩ := back_more hz8 hz9 HQ.out.2.2 HR.out.2.1 hrb9
  dsimp only at hmm
  have HM := Lib.hid hmm
  have H6 := Lib.hid (dadd_any (some mm) g2b A2b m2b c2b s2b e2b false (some ⟨w5.heap.size, 0, none⟩) 1 1 [rb] (-12) (w5.alloc (.cells #[.int .u64 (rb : Int)] 22)) HHi.out HYl.out (by omega) (by omega) HT.out (by show _ = _; rw [eval_one]; exact hmm))
  clear hmm
  go_wp2_with fail
  refine H6.out.mono ?_
  rintro e w6 ⟨gm, Am, lm, cm, sm, em, rm, rfl, hmm, hlm, hbm, ⟨hr, hg, hv, he⟩, hB⟩
  clear k3 k4 k5
  subst gm em rm
  replace HT : Hid (Tab w6) := HT.out.below hB
  replace HLi : Hid (Lim w6 A2a m2a c2a s2a) := HLi.out.below hB
  replace HHi : Hid (Lim w6 A2b m2b c2b s2b) := HHi.out.below hB
  replace HIi : Hid (Ib w6 w2.heap.size g2a A2a m2a c2a e2a g2b A2b m2b c2b e2b) := HIi.out.below hB
  replace HLx : Hid (Lim w6 A3a m3a c3a s3a) := HLx.out.below hB
  replace HHx : Hid (Lim w6 A3b m3b c3b s3b) := HHx.out.below hB
  replace HIx : Hid (Ib w6 w3.heap.size g3a A3a m3a c3a e3a g3b A3b m3b c3b e3b) := HIx.out.below hB
  replace HYl : Hid (Lim w6 (some ⟨w5.heap.size, 0, none⟩) 1 1 [rb]) := HYl.out.below hB
  replace HS := Lib.hid (HS.out.trans (hB.mono HS.out.size))
  have HMl : Hid (Lim w6 Am lm cm sm) := hlm
  have HMv : Hid (val sm = mm.V) := hv
  clear hlm hbm hv hB H6
  clear HYl
  have ba := below1 w6 (.cells #[.bool mm.neg, .slice Am lm cm, .int .i64 mm.e] 27)
  replace HT : Hid (Tab (w6.alloc (.cells #[.bool mm.neg, .slice Am lm cm, .int .i64 mm.e] 27))) := HT.out.below ba
  replace HLi : Hid (Lim (w6.alloc (.cells #[.bool mm.neg, .slice Am lm cm, .int .i64 mm.e] 27)) A2a m2a c2a s2a) := HLi.out.below ba
  replace HHi : Hid (Lim (w6.alloc (.cells #[.bool mm.neg, .slice Am lm cm, .int .i64 mm.e] 27)) A2b m2b c2b s2b) := HHi.out.below ba
  replace HIi : Hid (Ib (w6.alloc (.cells #[.bool mm.neg, .slice Am lm cm, .int .i64 mm.e] 27)) w2.heap.size g2a A2a m2a c2a e2a g2b A2b m2b c2b e2b) := HIi.out.below ba
  replace HLx : Hid (Lim (w6.alloc (.cells #[.bool mm.neg, .slice Am lm cm, .int .i64 mm.e] 27)) A3a m3a c3a s3a) := HLx.out.below ba
  replace HHx : Hid (Lim (w6.alloc (.cells #[.bool mm.neg, .slice Am lm cm, .int .i64 mm.e] 27)) A3b m3b c3b s3b) := HHx.out.below ba
  replace HIx : Hid (Ib (w6.alloc (.cells #[.bool mm.neg, .slice Am lm cm, .int .i64 mm.e] 27)) w3.heap.size g3a A3a m3a c3a e3a g3b A3b m3b c3b e3b) := HIx.out.below ba
  replace HMl : Hid (Lim (w6.alloc (.cells #[.bool mm.neg, .slice Am lm cm, .int .i64 mm.e] 27)) Am lm cm sm) := HMl.out.below ba
  replace HS := Lib.hid (HS.out.trans (ba.mono HS.out.size))
  clear ba
  have HMb : Hid (Bd (w6.alloc (.cells #[.bool mm.neg, .slice Am lm cm, .int .i64 mm.e] 27)) w6.heap.size 27 mm.neg Am lm cm mm.e) := Bd.new w6 27 mm.neg Am lm cm mm.e
  have HMb_0 := HMb.out.c0
  have HMb_1 := HMb.out.c1
  have HMb_2 := HMb.out.c2
  have H7 := Lib.hid (exp_l mm.neg Am lm cm sm mm.e mm.neg Am lm cm sm mm.e (z : Int) (w6.alloc (.cells #[.bool mm.neg, .slice Am lm cm, .int .i64 mm.e] 27)) HMl.out HMl.out (by omega) (by omega) HT.out (by omega))
  go_wp2_with fail
  refine H7.out.mono ?_
  rintro e w7 ⟨g7a, A7a, m7a, c7a, s7a, e7a, g7b, A7b, m7b, c7b, s7b, e7b, r7, rfl, hm7a, hm7b, hl7a, hl7b, hb7a, hb7b, hB, hq⟩
  clear HMb_0 HMb_1 HMb_2
  replace HT : Hid (Tab w7) := HT.out.below hB
  replace HLi : Hid (Lim w7 A2a m2a c2a s2a) := HLi.out.below hB
  replace HHi : Hid (Lim w7 A2b m2b c2b s2b) := HHi.out.below hB
  replace HIi : Hid (Ib w7 w2.heap.size g2a A2a m2a c2a e2a g2b A2b m2b c2b e2b) := HIi.out.below hB
  replace HLx : Hid (Lim w7 A3a m3a c3a s3a) := HLx.out.below hB
  replace HHx : Hid (Lim w7 A3b m3b c3b s3b) := HHx.out.below hB
  replace HIx : Hid (Ib w7 w3.heap.size g3a A3a m3a c3a e3a g3b A3b m3b c3b e3b) := HIx.out.below hB
  replace HMl : Hid (Lim w7 Am lm cm sm) := HMl.out.below hB
  replace HMb : Hid (Bd w7 w6.heap.size 27 mm.neg Am lm cm mm.e) := HMb.out.below hB
  replace HS := Lib.hid (HS.out.trans (hB.mono HS.out.size))
  have HLy : Hid (Lim w7 A7a m7a c7a s7a) := hl7a
  have HHy : Hid (Lim w7 A7b m7b c7b s7b) := hl7b
  have HBy : Hid (Bare s7a ∧ Bare s7b) := ⟨hb7a, hb7b⟩
  rw [HMv.out] at hq
  obtain ⟨rfl, hq1, hq2⟩ := back_two (hi := ⟨g2b, val s2b, e2b⟩) hz8 hz9 HQ.out.2.2 HR.out.2.1 hrb9 HM.out hq HR.out.2.2.1.1 HR.out.2.2.1.2.1 HR.out.2.2.1.2.2.1 HR.out.2.2.1.2.2.2 HR.out.2.2.2
  dsimp only at hq1 hq2
  have HE : Hid (rat g3a (val s3a) e3a ≤ rat g7b (val s7b) e7b ∧ val s7a ≠ 0) := ⟨hq1, hq2⟩
  clear hq1 hq2
  clear hl7a hl7b hb7a hb7b hB hq H7
  have ba := below1 w7 (.cells #[.bool g7a, .slice A7a m7a c7a, .int .i64 e7a, .bool g7b, .slice A7b m7b c7b, .int .i64 e7b] 29)
  replace HT : Hid (Tab (w7.alloc (.cells #[.bool g7a, .slice A7a m7a c7a, .int .i64 e7a, .bool g7b, .slice A7b m7b c7b, .int .i64 e7b] 29))) := HT.out.below ba
  replace HLi : Hid (Lim (w7.alloc (.cells #[.bool g7a, .slice A7a m7a c7a, .int .i64 e7a, .bool g7b, .slice A7b m7b c7b, .int .i64 e7b] 29)) A2a m2a c2a s2a) := HLi.out.below ba
  replace HHi : Hid (Lim (w7.alloc (.cells #[.bool g7a, .slice A7a m7a c7a, .int .i64 e7a, .bool g7b, .slice A7b m7b c7b, .int .i64 e7b] 29)) A2b m2b c2b s2b) := HHi.out.below ba
  replace HIi : Hid (Ib (w7.alloc (.cells #[.bool g7a, .slice A7a m7a c7a, .int .i64 e7a, .bool g7b, .slice A7b m7b c7b, .int .i64 e7b] 29)) w2.heap.size g2a A2a m2a c2a e2a g2b A2b m2b c2b e2b) := HIi.out.below ba
  replace HLx : Hid (Lim (w7.alloc (.cells #[.bool g7a, .slice A7a m7a c7a, .int .i64 e7a, .bool g7b, .slice A7b m7b c7b, .int .i64 e7b] 29)) A3a m3a c3a s3a) := HLx.out.below ba
  replace HHx : Hid (Lim (w7.alloc (.cells #[.bool g7a, .slice A7a m7a c7a, .int .i64 e7a, .bool g7b, .slice A7b m7b c7b, .int .i64 e7b] 29)) A3b m3b c3b s3b) := HHx.out.below ba
  replace HIx : Hid (Ib (w7.alloc (.cells #[.bool g7a, .slice A7a m7a c7a, .int .i64 e7a, .bool g7b, .slice A7b m7b c7b, .int .i64 e7b] 29)) w3.heap.size g3a A3a m3a c3a e3a g3b A3b m3b c3b e3b) := HIx.out.below ba
  replace HMl : Hid (Lim (w7.alloc (.cells #[.bool g7a, .slice A7a m7a c7a, .int .i64 e7a, .bool g7b, .slice A7b m7b c7b, .int .i64 e7b] 29)) Am lm cm sm) := HMl.out.below ba
  replace HMb : Hid (Bd (w7.alloc (.cells #[.bool g7a, .slice A7a m7a c7a, .int .i64 e7a, .bool g7b, .slice A7b m7b c7b, .int .i64 e7b] 29)) w6.heap.size 27 mm.neg Am lm cm mm.e) := HMb.out.below ba
  replace HLy : Hid (Lim (w7.alloc (.cells #[.bool g7a, .slice A7a m7a c7a, .int .i64 e7a, .bool g7b, .slice A7b m7b c7b, .int .i64 e7b] 29)) A7a m7a c7a s7a) := HLy.out.below ba
  replace HHy : Hid (Lim (w7.alloc (.cells #[.bool g7a, .slice A7a m7a c7a, .int .i64 e7a, .bool g7b, .slice A7b m7b c7b, .int .i64 e7b] 29)) A7b m7b c7b s7b) := HHy.out.below ba
  replace HS := Lib.hid (HS.out.trans (ba.mono HS.out.size))
  clear ba
  have HIy : Hid (Ib (w7.alloc (.cells #[.bool g7a, .slice A7a m7a c7a, .int .i64 e7a, .bool g7b, .slice A7b m7b c7b, .int .i64 e7b] 29)) w7.heap.size g7a A7a m7a c7a e7a g7b A7b m7b c7b e7b) := Ib.new w7 g7a A7a m7a c7a e7a g7b A7b m7b c7b e7b
  obtain ⟨vc, hvc⟩ : ∃ v, cmpI (dw g3a (val s3a) e3a) (dw g7b (val s7b) e7b) = v := ⟨_, rfl⟩
  have cvc : decide (vc ≤ (0 : Int)) = true := decide_eq_true (by have h := cmp_notup HE.out.1; omega)
  obtain ⟨bl, hbl⟩ : ∃ b, blen (val s7a) = b := ⟨_, rfl⟩
  have cbl : decide ((0 : Int) < (bl : Int)) = true := decide_eq_true (by have := blen_pos HE.out.2; omega)
  have cbln : decide (0 < bl) = true := decide_eq_true (by have := blen_pos HE.out.2; omega)
  have HVc := Lib.hid hvc
  have HBl := Lib.hid hbl
  clear hvc hbl
  have HIx_0 := HIx.out.x0
  have HIx_1 := HIx.out.x1
  have HIx_2 := HIx.out.x2
  have HIx_3 := HIx.out.x3
  have HIx_4 := HIx.out.x4
  have HIx_5 := HIx.out.x5
  have HIy_0 := HIy.out.x0
  have HIy_1 := HIy.out.x1
  have HIy_2 := HIy.out.x2
  have HIy_3 := HIy.out.x3
  have HIy_4 := HIy.out.x4
  have HIy_5 := HIy.out.x5
  have H8 := Lib.hid (dcmp_l vc g3a A3a m3a c3a s3a e3a g7b A7b m7b c7b s7b e7b (w7.alloc (.cells #[.bool g7a, .slice A7a m7a c7a, .int .i64 e7a, .bool g7b, .slice A7b m7b c7b, .int .i64 e7b] 29)) HLx.out HHy.out (by omega) (by omega) HT.out HVc)
  go_wp2_with fail
  refine H8.out.mono ?_
  rintro e w8 ⟨rfl, hB⟩
  clear HIx_0 HIx_1 HIx_2 HIx_3 HIx_4 HIx_5 HIy_0 HIy_1 HIy_2 HIy_3 HIy_4 HIy_5
  replace HT : Hid (Tab w8) := HT.out.below hB
  replace HLi : Hid (Lim w8 A2a m2a c2a s2a) := HLi.out.below hB
  replace HHi : Hid (Lim w8 A2b m2b c2b s2b) := HHi.out.below hB
  replace HIi : Hid (Ib w8 w2.heap.size g2a A2a m2a c2a e2a g2b A2b m2b c2b e2b) := HIi.out.below hB
  replace HLx : Hid (Lim w8 A3a m3a c3a s3a) := HLx.out.below hB
  replace HHx : Hid (Lim w8 A3b m3b c3b s3b) := HHx.out.below hB
  replace HIx : Hid (Ib w8 w3.heap.size g3a A3a m3a c3a e3a g3b A3b m3b c3b e3b) := HIx.out.below hB
  replace HMl : Hid (Lim w8 Am lm cm sm) := HMl.out.below hB
  replace HMb : Hid (Bd w8 w6.heap.size 27 mm.neg Am lm cm mm.e) := HMb.out.below hB
  replace HLy : Hid (Lim w8 A7a m7a c7a s7a) := HLy.out.below hB
  replace HHy : Hid (Lim w8 A7b m7b c7b s7b) := HHy.out.below hB
  replace HIy : Hid (Ib w8 w7.heap.size g7a A7a m7a c7a e7a g7b A7b m7b c7b e7b) := HIy.out.below hB
  replace HS := Lib.hid (HS.out.trans (hB.mono HS.out.size))
  clear hB H8
  have HIy_0 := HIy.out.x0
  have HIy_1 := HIy.out.x1
  have HIy_2 := HIy.out.x2
  have HIy_3 := HIy.out.x3
  have HIy_4 := HIy.out.x4
  have HIy_5 := HIy.out.x5
  have H9 := Lib.hid (bits_l bl A7a m7a c7a s7a w8 HLy.out (by omega) HBl)
  go_wp2_with fail
  refine H9.out.mono ?_
  rintro e w' ⟨rfl, rfl⟩
  clear H9
  have Hfin := Lib.hid HS.out
  clear HS HT HLi HHi HIi HLx HHx HIx HMl HMb HLy HHy HIy HQ HR HM HMv HE HVc HBl HBi HBx HBy
  go_wp2
  go_ret
  exact ⟨rfl, Hfin.out⟩

theorem walk_expsBack (a e0 b s : Int) (w : World) (hT : Tab w) (ha1 : 0 ≤ a) (ha2 : a ≤ 18446744073709551615) (he1 : -32768 ≤ e0) (he2 : e0 ≤ 32767) (hb1 : 0 ≤ b) (hb2 : b ≤ 18446744073709551615) (hs1 : 0 ≤ s) (hs2 : s ≤ 255) :
    Calls Tryd.prog 3 #[.int .u64 a, .int .i16 e0, .int .u64 b, .int .u8 s] w fun e w' => e = .returned (.bool true) ∧ Below w.heap.size w w' := by
  obtain ⟨a, rfl⟩ := Int.eq_ofNat_of_zero_le ha1
  obtain ⟨b, rfl⟩ := Int.eq_ofNat_of_zero_le hb1
  obtain ⟨s, rfl⟩ := Int.eq_ofNat_of_zero_le hs1
  by_cases h0 : a = 0
  · subst h0
    exact eback_nought e0 b s w hT
  · obtain ⟨n, hn⟩ : ∃ n, e0.tmod 1000 = n := ⟨_, rfl⟩
    have h1 : n < 1000 := by rw [← hn]; exact Int.tmod_lt_of_pos e0 (by decide)
    have h2 : -1000 < n := by
      have := Int.tmod_lt_of_pos (-e0) (b := 1000) (by decide)
      rw [Int.neg_tmod, hn] at this
      omega
    exact eback_some a b s e0 n w hT (by omega) (by omega) h0 he1 he2 hn h2 h1 (by omega)
end Go.Proofs.YtijhdlkfihjbiaaDoor
