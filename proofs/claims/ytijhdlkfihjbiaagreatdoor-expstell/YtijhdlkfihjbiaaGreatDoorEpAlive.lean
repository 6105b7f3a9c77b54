/- The walk of planimeterlaw14.alive (written by law_ealive.py). -/
import Derived.Test.YtijhdlkfihjbiaaGreatDoorEpExpP
import Derived.Test.YtijhdlkfihjbiaaGreatDoorK6
namespace Go.Proofs.YtijhdlkfihjbiaaGreatDoor
open Go.RowKit

theorem cmp_notup {g k : Bool} {V U : Nat} {e f : Int} (h : rat g V e ≤ rat k U f) : cmpI (dw g V e) (dw k U f) ≤ 0 := rat_cmp.2 h
theorem cmp_notdown {g k : Bool} {V U : Nat} {e f : Int} (h : rat k U f ≤ rat g V e) : 0 ≤ cmpI (dw g V e) (dw k U f) := by
  have h1 := rat_cmp.2 h
  have h2 := cmpI_swap (dw k U f) (dw g V e)
  omega
theorem rat_oneE : rat false 1 0 = 1 := by
  have h := rat_whole 1
  have e : ((1 : Nat) : Rat) = 1 := by exact_mod_cast rfl
  rw [h, e]

set_option maxHeartbeats 4000000 in
set_option maxRecDepth 20000 in
theorem ealive_any (w : World) (hT : Tab w) : Calls Tryz.prog 4 #[] w fun e w' => e = .returned (.bool true) ∧ Below w.heap.size w w' := by
  have HT := Lib.hid hT
  have HS := Lib.hid (Below.refl w.heap.size w)
  have H1 := Lib.hid (exp_l false none 0 0 [] 0 false none 0 0 [] 0 64 w (Lim.nil _ _ _) (Lim.nil _ _ _) (by decide) (by decide) hT (by decide))
  clear hT
  go_enter Tryz.func4, Tryz.ntmps4
  go_wp2_with fail
  refine H1.out.mono ?_
  rintro e w1 ⟨g1a, A1a, m1a, c1a, s1a, e1a, g1b, A1b, m1b, c1b, s1b, e1b, r1, rfl, hm1a, hm1b, hl1a, hl1b, hb1a, hb1b, hB, hq⟩
  replace HT : Hid (Tab w1) := HT.out.below hB
  replace HS := Lib.hid (HS.out.trans (hB.mono HS.out.size))
  have HLi : Hid (Lim w1 A1a m1a c1a s1a) := hl1a
  have HHi : Hid (Lim w1 A1b m1b c1b s1b) := hl1b
  have HBi : Hid (Bare s1a ∧ Bare s1b) := ⟨hb1a, hb1b⟩
  obtain ⟨rfl, q1, q2, q3, q4, q5⟩ := expp_nought hq
  dsimp only at q1 q2 q3 q4 q5
  have HQ : Hid (rat g1a (val s1a) e1a ≤ 1 ∧ 1 ≤ rat g1b (val s1b) e1b ∧ val s1a ≠ 0 ∧ g1a = false) := ⟨q1, q2, q3, q4⟩
  clear q1 q2 q3 q4 q5
  clear hl1a hl1b hb1a hb1b hB hq H1
  have ba := below1 w1 (.cells #[.bool g1a, .slice A1a m1a c1a, .int .i64 e1a, .bool g1b, .slice A1b m1b c1b, .int .i64 e1b] 34)
  replace HT : Hid (Tab (w1.alloc (.cells #[.bool g1a, .slice A1a m1a c1a, .int .i64 e1a, .bool g1b, .slice A1b m1b c1b, .int .i64 e1b] 34))) := HT.out.below ba
  replace HLi : Hid (Lim (w1.alloc (.cells #[.bool g1a, .slice A1a m1a c1a, .int .i64 e1a, .bool g1b, .slice A1b m1b c1b, .int .i64 e1b] 34)) A1a m1a c1a s1a) := HLi.out.below ba
  replace HHi : Hid (Lim (w1.alloc (.cells #[.bool g1a, .slice A1a m1a c1a, .int .i64 e1a, .bool g1b, .slice A1b m1b c1b, .int .i64 e1b] 34)) A1b m1b c1b s1b) := HHi.out.below ba
  replace HS := Lib.hid (HS.out.trans (ba.mono HS.out.size))
  clear ba
  have HIi : Hid (Ib (w1.alloc (.cells #[.bool g1a, .slice A1a m1a c1a, .int .i64 e1a, .bool g1b, .slice A1b m1b c1b, .int .i64 e1b] 34)) w1.heap.size g1a A1a m1a c1a e1a g1b A1b m1b c1b e1b) := Ib.new w1 g1a A1a m1a c1a e1a g1b A1b m1b c1b e1b
  have H2 := Lib.hid (dof_nat 1 (by decide) false 1 0 (w1.alloc (.cells #[.bool g1a, .slice A1a m1a c1a, .int .i64 e1a, .bool g1b, .slice A1b m1b c1b, .int .i64 e1b] 34)) HT.out rfl)
  go_wp2_with fail
  refine H2.out.mono ?_
  rintro e w2 ⟨A2, m2, c2, d2, rfl, hm2, hl2, hb2, hv2, hB⟩
  replace HT : Hid (Tab w2) := HT.out.below hB
  replace HLi : Hid (Lim w2 A1a m1a c1a s1a) := HLi.out.below hB
  replace HHi : Hid (Lim w2 A1b m1b c1b s1b) := HHi.out.below hB
  replace HIi : Hid (Ib w2 w1.heap.size g1a A1a m1a c1a e1a g1b A1b m1b c1b e1b) := HIi.out.below hB
  replace HS := Lib.hid (HS.out.trans (hB.mono HS.out.size))
  have HO : Hid (Lim w2 A2 m2 c2 d2) := hl2
  have HOv : Hid (Bare d2 ∧ val d2 = 1) := ⟨hb2, hv2⟩
  clear hl2 hb2 hv2 hB H2
  have ba := below1 w2 (.cells #[.bool false, .slice A2 m2 c2, .int .i64 0] 32)
  replace HT : Hid (Tab (w2.alloc (.cells #[.bool false, .slice A2 m2 c2, .int .i64 0] 32))) := HT.out.below ba
  replace HLi : Hid (Lim (w2.alloc (.cells #[.bool false, .slice A2 m2 c2, .int .i64 0] 32)) A1a m1a c1a s1a) := HLi.out.below ba
  replace HHi : Hid (Lim (w2.alloc (.cells #[.bool false, .slice A2 m2 c2, .int .i64 0] 32)) A1b m1b c1b s1b) := HHi.out.below ba
  replace HIi : Hid (Ib (w2.alloc (.cells #[.bool false, .slice A2 m2 c2, .int .i64 0] 32)) w1.heap.size g1a A1a m1a c1a e1a g1b A1b m1b c1b e1b) := HIi.out.below ba
  replace HO : Hid (Lim (w2.alloc (.cells #[.bool false, .slice A2 m2 c2, .int .i64 0] 32)) A2 m2 c2 d2) := HO.out.below ba
  replace HS := Lib.hid (HS.out.trans (ba.mono HS.out.size))
  clear ba
  have HOb : Hid (Bd (w2.alloc (.cells #[.bool false, .slice A2 m2 c2, .int .i64 0] 32)) w2.heap.size 32 false A2 m2 c2 0) := Bd.new w2 32 false A2 m2 c2 0
  have H3 := Lib.hid (exp_l false none 0 0 [] 0 false none 0 0 [] 0 7 (w2.alloc (.cells #[.bool false, .slice A2 m2 c2, .int .i64 0] 32)) (Lim.nil _ _ _) (Lim.nil _ _ _) (by decide) (by decide) HT.out (by decide))
  go_wp2_with fail
  refine H3.out.mono ?_
  rintro e w3 ⟨g3a, A3a, m3a, c3a, s3a, e3a, g3b, A3b, m3b, c3b, s3b, e3b, r3, rfl, hm3a, hm3b, hl3a, hl3b, hb3a, hb3b, hB, hq⟩
  replace HT : Hid (Tab w3) := HT.out.below hB
  replace HLi : Hid (Lim w3 A1a m1a c1a s1a) := HLi.out.below hB
  replace HHi : Hid (Lim w3 A1b m1b c1b s1b) := HHi.out.below hB
  replace HIi : Hid (Ib w3 w1.heap.size g1a A1a m1a c1a e1a g1b A1b m1b c1b e1b) := HIi.out.below hB
  replace HO : Hid (Lim w3 A2 m2 c2 d2) := HO.out.below hB
  replace HOb : Hid (Bd w3 w2.heap.size 32 false A2 m2 c2 0) := HOb.out.below hB
  replace HS := Lib.hid (HS.out.trans (hB.mono HS.out.size))
  have HLj : Hid (Lim w3 A3a m3a c3a s3a) := hl3a
  have HHj : Hid (Lim w3 A3b m3b c3b s3b) := hl3b
  have HBj : Hid (Bare s3a ∧ Bare s3b) := ⟨hb3a, hb3b⟩
  obtain rfl := expp_no (fun ⟨lo, hi, h⟩ => absurd h.2.2.2.2.2.1 (by decide)) hq
  clear hl3a hl3b hb3a hb3b hB hq H3
  have ba := below1 w3 (.cells #[.bool g3a, .slice A3a m3a c3a, .int .i64 e3a, .bool g3b, .slice A3b m3b c3b, .int .i64 e3b] 34)
  replace HT : Hid (Tab (w3.alloc (.cells #[.bool g3a, .slice A3a m3a c3a, .int .i64 e3a, .bool g3b, .slice A3b m3b c3b, .int .i64 e3b] 34))) := HT.out.below ba
  replace HLi : Hid (Lim (w3.alloc (.cells #[.bool g3a, .slice A3a m3a c3a, .int .i64 e3a, .bool g3b, .slice A3b m3b c3b, .int .i64 e3b] 34)) A1a m1a c1a s1a) := HLi.out.below ba
  replace HHi : Hid (Lim (w3.alloc (.cells #[.bool g3a, .slice A3a m3a c3a, .int .i64 e3a, .bool g3b, .slice A3b m3b c3b, .int .i64 e3b] 34)) A1b m1b c1b s1b) := HHi.out.below ba
  replace HIi : Hid (Ib (w3.alloc (.cells #[.bool g3a, .slice A3a m3a c3a, .int .i64 e3a, .bool g3b, .slice A3b m3b c3b, .int .i64 e3b] 34)) w1.heap.size g1a A1a m1a c1a e1a g1b A1b m1b c1b e1b) := HIi.out.below ba
  replace HO : Hid (Lim (w3.alloc (.cells #[.bool g3a, .slice A3a m3a c3a, .int .i64 e3a, .bool g3b, .slice A3b m3b c3b, .int .i64 e3b] 34)) A2 m2 c2 d2) := HO.out.below ba
  replace HOb : Hid (Bd (w3.alloc (.cells #[.bool g3a, .slice A3a m3a c3a, .int .i64 e3a, .bool g3b, .slice A3b m3b c3b, .int .i64 e3b] 34)) w2.heap.size 32 false A2 m2 c2 0) := HOb.out.below ba
  replace HLj : Hid (Lim (w3.alloc (.cells #[.bool g3a, .slice A3a m3a c3a, .int .i64 e3a, .bool g3b, .slice A3b m3b c3b, .int .i64 e3b] 34)) A3a m3a c3a s3a) := HLj.out.below ba
  replace HHj : Hid (Lim (w3.alloc (.cells #[.bool g3a, .slice A3a m3a c3a, .int .i64 e3a, .bool g3b, .slice A3b m3b c3b, .int .i64 e3b] 34)) A3b m3b c3b s3b) := HHj.out.below ba
  replace HS := Lib.hid (HS.out.trans (ba.mono HS.out.size))
  clear ba
  have HIj : Hid (Ib (w3.alloc (.cells #[.bool g3a, .slice A3a m3a c3a, .int .i64 e3a, .bool g3b, .slice A3b m3b c3b, .int .i64 e3b] 34)) w3.heap.size g3a A3a m3a c3a e3a g3b A3b m3b c3b e3b) := Ib.new w3 g3a A3a m3a c3a e3a g3b A3b m3b c3b e3b
  clear HIj HLj HHj
  clear HBj
  obtain ⟨va, hva⟩ : ∃ v, cmpI (dw g1a (val s1a) e1a) (dw false 1 0) = v := ⟨_, rfl⟩
  obtain ⟨vb, hvb⟩ : ∃ v, cmpI (dw g1b (val s1b) e1b) (dw false 1 0) = v := ⟨_, rfl⟩
  have cva : decide (va ≤ (0 : Int)) = true := decide_eq_true (by rw [← hva]; exact cmp_notup (by rw [rat_oneE]; exact HQ.out.1))
  have cvb : decide ((0 : Int) ≤ vb) = true := decide_eq_true (by rw [← hvb]; exact cmp_notdown (by rw [rat_oneE]; exact HQ.out.2.1))
  have HVa := Lib.hid hva
  have HVb := Lib.hid hvb
  clear hva hvb
  have HIi_0 := HIi.out.x0
  have HIi_1 := HIi.out.x1
  have HIi_2 := HIi.out.x2
  have HIi_3 := HIi.out.x3
  have HIi_4 := HIi.out.x4
  have HIi_5 := HIi.out.x5
  have HOb_0 := HOb.out.c0
  have HOb_1 := HOb.out.c1
  have HOb_2 := HOb.out.c2
  have H4 := Lib.hid (dcmp_l va g1a A1a m1a c1a s1a e1a false A2 m2 c2 d2 0 (w3.alloc (.cells #[.bool g3a, .slice A3a m3a c3a, .int .i64 e3a, .bool g3b, .slice A3b m3b c3b, .int .i64 e3b] 34)) HLi.out HO.out (by omega) (by omega) HT.out (by show _ = _; rw [HOv.out.2]; exact HVa.out))
  go_wp2_with fail
  refine H4.out.mono ?_
  rintro e w4 ⟨rfl, hB⟩
  clear HIi_0 HIi_1 HIi_2 HIi_3 HIi_4 HIi_5 HOb_0 HOb_1 HOb_2
  replace HT : Hid (Tab w4) := HT.out.below hB
  replace HLi : Hid (Lim w4 A1a m1a c1a s1a) := HLi.out.below hB
  replace HHi : Hid (Lim w4 A1b m1b c1b s1b) := HHi.out.below hB
  replace HIi : Hid (Ib w4 w1.heap.size g1a A1a m1a c1a e1a g1b A1b m1b c1b e1b) := HIi.out.below hB
  replace HO : Hid (Lim w4 A2 m2 c2 d2) := HO.out.below hB
  replace HOb : Hid (Bd w4 w2.heap.size 32 false A2 m2 c2 0) := HOb.out.below hB
  replace HS := Lib.hid (HS.out.trans (hB.mono HS.out.size))
  clear hB H4
  have HIi_0 := HIi.out.x0
  have HIi_1 := HIi.out.x1
  have HIi_2 := HIi.out.x2
  have HIi_3 := HIi.out.x3
  have HIi_4 := HIi.out.x4
  have HIi_5 := HIi.out.x5
  have HOb_0 := HOb.out.c0
  have HOb_1 := HOb.out.c1
  have HOb_2 := HOb.out.c2
  have H5 := Lib.hid (dcmp_l vb g1b A1b m1b c1b s1b e1b false A2 m2 c2 d2 0 w4 HHi.out HO.out (by omega) (by omega) HT.out (by show _ = _; rw [HOv.out.2]; exact HVb.out))
  go_wp2_with fail
  refine H5.out.mono ?_
  rintro e w5 ⟨rfl, hB⟩
  clear HIi_0 HIi_1 HIi_2 HIi_3 HIi_4 HIi_5 HOb_0 HOb_1 HOb_2
  replace HT : Hid (Tab w5) := HT.out.below hB
  replace HLi : Hid (Lim w5 A1a m1a c1a s1a) := HLi.out.below hB
  replace HHi : Hid (Lim w5 A1b m1b c1b s1b) := HHi.out.below hB
  replace HIi : Hid (Ib w5 w1.heap.size g1a A1a m1a c1a e1a g1b A1b m1b c1b e1b) := HIi.out.below hB
  replace HO : Hid (Lim w5 A2 m2 c2 d2) := HO.out.below hB
  replace HOb : Hid (Bd w5 w2.heap.size 32 false A2 m2 c2 0) := HOb.out.below hB
  replace HS := Lib.hid (HS.out.trans (hB.mono HS.out.size))
  clear hB H5
  have HIi_0 := HIi.out.x0
  have HIi_1 := HIi.out.x1
  have HIi_2 := HIi.out.x2
  have HIi_3 := HIi.out.x3
  have HIi_4 := HIi.out.x4
  have HIi_5 := HIi.out.x5
  have H6 := Lib.hid (sign_l 1 g1a A1a m1a c1a s1a e1a w5 HLi.out (by omega) (by show _ = _; unfold sgD; rw [if_neg HQ.out.2.2.1, HQ.out.2.2.2]; rfl))
  go_wp2_with fail
  refine H6.out.mono ?_
  rintro e w6 ⟨rfl, hB⟩
  clear HIi_0 HIi_1 HIi_2 HIi_3 HIi_4 HIi_5
  replace HT : Hid (Tab w6) := HT.out.below hB
  replace HLi : Hid (Lim w6 A1a m1a c1a s1a) := HLi.out.below hB
  replace HHi : Hid (Lim w6 A1b m1b c1b s1b) := HHi.out.below hB
  replace HIi : Hid (Ib w6 w1.heap.size g1a A1a m1a c1a e1a g1b A1b m1b c1b e1b) := HIi.out.below hB
  replace HO : Hid (Lim w6 A2 m2 c2 d2) := HO.out.below hB
  replace HOb : Hid (Bd w6 w2.heap.size 32 false A2 m2 c2 0) := HOb.out.below hB
  replace HS := Lib.hid (HS.out.trans (hB.mono HS.out.size))
  clear hB H6
  have Hfin := Lib.hid HS.out
  clear HS HT HLi HHi HIi HO HOb HQ HOv HVa HVb HBi
  go_wp2
  go_ret
  exact ⟨rfl, Hfin.out⟩
end Go.Proofs.YtijhdlkfihjbiaaGreatDoor
