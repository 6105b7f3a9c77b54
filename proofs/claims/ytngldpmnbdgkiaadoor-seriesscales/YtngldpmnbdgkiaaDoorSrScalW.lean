/- The walk of the law SeriesScales (written by law_sscales.py). -/
import Derived.Test.YtngldpmnbdgkiaaDoorSrScalM
namespace Go.Proofs.YtngldpmnbdgkiaaDoor
open Go.RowKit

theorem sblen_32 {x : Nat} (h : x < 4294967296) : blen x ≤ 32 := blen_le_iff.2 h
theorem sval_one (x : Nat) : val [x] = x := by simp [val]
theorem two_up {a b : Nat} (h : a ≤ b) : 2 ^ a ≤ 2 ^ b := Nat.pow_le_pow_right (by decide) h

set_option maxHeartbeats 1000000 in
set_option maxRecDepth 20000 in
theorem sscales_skip (HLn : Ln2Meets) (X Y s t : Nat) (g : Bool) (w : World) (hT : Tab w) (_hx : X < 4294967296) (hy : Y < 4294967296) (h : Y = 0 ∨ Y / 3 < X) :
    Calls Tryd.prog 5 #[.int .u32 (X : Int), .int .u32 (Y : Int), .int .u8 (s : Int), .int .u8 (t : Int), .bool g] w fun e w' => e = .returned (.bool true) ∧ Below w.heap.size w w' := by
  have H1 := Lib.hid (salive_any HLn w hT)
  clear HLn hT
  by_cases h0 : Y = 0
  · subst h0
    clear h hy
    go_enter Tryd.func5, Tryd.ntmps5
    go_wp2_with fail
    refine H1.out.mono ?_
    rintro e w1 ⟨rfl, hB1⟩
    have Hfin := Lib.hid hB1
    clear hB1 H1
    go_wp2
    go_ret
    exact ⟨rfl, Hfin.out⟩
  · have b0 : ((Y : Int) == 0) = false := beq_no (by omega)
    obtain ⟨q, hq⟩ : ∃ q, Y / 3 = q := ⟨_, rfl⟩
    have e1 : (Y : Int) / 3 = (q : Int) := by omega
    have hq9 : q < 4294967296 := by omega
    have b1 : decide (q < X) = true := decide_eq_true (by omega)
    have b2 : decide ((q : Int) < (X : Int)) = true := decide_eq_true (by omega)
    clear h h0 hq
    go_enter Tryd.func5, Tryd.ntmps5
    go_wp2_with fail
    refine H1.out.mono ?_
    rintro e w1 ⟨rfl, hB1⟩
    have Hfin := Lib.hid hB1
    clear hB1 H1
    go_wp2
    go_ret
    exact ⟨rfl, Hfin.out⟩

set_option maxHeartbeats 4000000 in
set_option maxRecDepth 20000 in
theorem sscales_false (HAt : AtanhMeets) (HLn : Ln2Meets) (HWi : WithinMeets) (X Y s t : Nat) (w : World) (hT : Tab w) (hx : X < 4294967296) (hy : Y < 4294967296) (hs : s ≤ 255) (ht : t ≤ 255) (h0 : Y ≠ 0) (hle : X ≤ Y / 3) :
    Calls Tryd.prog 5 #[.int .u32 (X : Int), .int .u32 (Y : Int), .int .u8 (s : Int), .int .u8 (t : Int), .bool false] w fun e w' => e = .returned (.bool true) ∧ Below w.heap.size w w' := by
  have H1 := Lib.hid (salive_any HLn w hT)
  have HT := Lib.hid hT
  have HN := Lib.hid HAt
  have HL2 := Lib.hid HLn
  have HW := Lib.hid HWi
  have HS := Lib.hid (Below.refl w.heap.size w)
  have h3 : 3 * X ≤ Y := by omega
  have b0 : ((Y : Int) == 0) = false := beq_no (by omega)
  obtain ⟨q, hq⟩ : ∃ q, Y / 3 = q := ⟨_, rfl⟩
  have e1 : (Y : Int) / 3 = (q : Int) := by omega
  have hq9 : q < 4294967296 := by omega
  have b1 : decide (q < X) = false := decide_eq_false (by omega)
  have b2 : decide ((q : Int) < (X : Int)) = false := decide_eq_false (by omega)
  obtain ⟨i, hi⟩ : ∃ i, 8 + s = i := ⟨_, rfl⟩
  have ei : (8 : Int) + (s : Int) = (i : Int) := by omega
  obtain ⟨k, hk⟩ : ∃ k, i + t = k := ⟨_, rfl⟩
  have ek : (i : Int) + (t : Int) = (k : Int) := by omega
  obtain ⟨p2, hp2⟩ : ∃ p, 2 * k = p := ⟨_, rfl⟩
  have ep2 : (2 : Int) * (k : Int) = (p2 : Int) := by omega
  obtain ⟨t128, ht128⟩ : ∃ p, p2 + 128 = p := ⟨_, rfl⟩
  have e128 : (p2 : Int) + 128 = (t128 : Int) := by omega
  obtain ⟨t80, ht80⟩ : ∃ p, k + 80 = p := ⟨_, rfl⟩
  have e80 : (k : Int) + 80 = (t80 : Int) := by omega
  have hi9 : i ≤ 263 := by omega
  have hk9 : k ≤ 518 := by omega
  have hp9 : p2 ≤ 1036 := by omega
  have h1289 : t128 ≤ 1164 := by omega
  have h809 : t80 ≤ 598 := by omega
  have hk8 : 8 ≤ k := by omega
  have hi8 : 8 ≤ i := by omega
  have Hk := Lib.hid hk
  have H80 := Lib.hid ht80
  have H128 : Hid (2 * k + 128 = t128) := by show _ = _; omega
  have H3 : Hid (Y ≠ 0 ∧ 3 * X ≤ Y) := ⟨h0, h3⟩
  clear HLn HAt HWi hT hi hk hp2 ht128 ht80 hq h0 hle h3
  go_enter Tryd.func5, Tryd.ntmps5
  go_wp2_with fail
  refine H1.out.mono ?_
  rintro e w1 ⟨rfl, hB⟩
  replace HT : Hid (Tab w1) := HT.out.below hB
  replace HS := Lib.hid (HS.out.trans (hB.mono HS.out.size))
  clear hB H1
  have ln1a := lim_new1 w1 38 X (X : Int) rfl (by omega)
  have ba1a := below1 w1 (.cells #[.int .u64 (X : Int)] 38)
  replace HT : Hid (Tab (w1.alloc (.cells #[.int .u64 (X : Int)] 38))) := HT.out.below ba1a
  replace HS := Lib.hid (HS.out.trans (ba1a.mono HS.out.size))
  clear ba1a
  have HXl : Hid (Lim (w1.alloc (.cells #[.int .u64 (X : Int)] 38)) (some ⟨w1.heap.size, 0, none⟩) 1 1 [X]) := ln1a
  clear ln1a
  have ln1b := lim_new1 (w1.alloc (.cells #[.int .u64 (X : Int)] 38)) 38 Y (Y : Int) rfl (by omega)
  rw [World.size_alloc] at ln1b
  have ba1b := below1 (w1.alloc (.cells #[.int .u64 (X : Int)] 38)) (.cells #[.int .u64 (Y : Int)] 38)
  replace HT : Hid (Tab ((w1.alloc (.cells #[.int .u64 (X : Int)] 38)).alloc (.cells #[.int .u64 (Y : Int)] 38))) := HT.out.below ba1b
  replace HXl : Hid (Lim ((w1.alloc (.cells #[.int .u64 (X : Int)] 38)).alloc (.cells #[.int .u64 (Y : Int)] 38)) (some ⟨w1.heap.size, 0, none⟩) 1 1 [X]) := HXl.out.below ba1b
  replace HS := Lib.hid (HS.out.trans (ba1b.mono HS.out.size))
  clear ba1b
  have HYl : Hid (Lim ((w1.alloc (.cells #[.int .u64 (X : Int)] 38)).alloc (.cells #[.int .u64 (Y : Int)] 38)) (some ⟨w1.heap.size + 1, 0, none⟩) 1 1 [Y]) := ln1b
  clear ln1b
  have H9 := HN.out (some ⟨w1.heap.size, 0, none⟩) 1 1 [X] (some ⟨w1.heap.size + 1, 0, none⟩) 1 1 [Y] (i : Int) ((w1.alloc (.cells #[.int .u64 (X : Int)] 38)).alloc (.cells #[.int .u64 (Y : Int)] 38)) HXl.out HYl.out (by decide) (by decide) HT.out (by omega) (by omega)
  rw [sval_one X, sval_one Y] at H9
  replace H9 := Lib.hid H9
  go_wp2_with fail
  refine H9.out.mono ?_
  rintro e w2 ⟨Ala, mla, cla, la, Aha, mha, cha, ha, ra, rfl, hmla, hmha, hlla, hlha, hB, hq⟩
  replace HT : Hid (Tab w2) := HT.out.below hB
  replace HXl : Hid (Lim w2 (some ⟨w1.heap.size, 0, none⟩) 1 1 [X]) := HXl.out.below hB
  replace HYl : Hid (Lim w2 (some ⟨w1.heap.size + 1, 0, none⟩) 1 1 [Y]) := HYl.out.below hB
  replace HS := Lib.hid (HS.out.trans (hB.mono HS.out.size))
  obtain ⟨rfl, hqa⟩ : ra = 0 ∧ (AtB X Y i (val la) (val ha) ∧ val la ≤ val ha ∧ val ha - val la ≤ i + 64) := by
    rcases hq with ⟨_, h1, h2, h3, h4⟩ | ⟨h, _⟩
    · rw [Int.toNat_natCast] at h2 h4; exact ⟨h1, h2, h3, h4⟩
    · exact absurd (show AtOk X Y (i : Int) from ⟨⟨by omega, by omega⟩, by have := sblen_32 hx; omega, by have := sblen_32 hy; omega, H3.out.1, H3.out.2⟩) h
  have HLa : Hid (Lim w2 Ala mla cla la) := hlla
  have HHa : Hid (Lim w2 Aha mha cha ha) := hlha
  have HQa := Lib.hid hqa
  clear hq hqa hlla hlha hB H9
  have H9 := HN.out (some ⟨w1.heap.size, 0, none⟩) 1 1 [X] (some ⟨w1.heap.size + 1, 0, none⟩) 1 1 [Y] (k : Int) w2 HXl.out HYl.out (by decide) (by decide) HT.out (by omega) (by omega)
  rw [sval_one X, sval_one Y] at H9
  replace H9 := Lib.hid H9
  go_wp2_with fail
  refine H9.out.mono ?_
  rintro e w3 ⟨Alc, mlc, clc, lc, Ahc, mhc, chc, hc, rc, rfl, hmlc, hmhc, hllc, hlhc, hB, hq⟩
  replace HT : Hid (Tab w3) := HT.out.below hB
  replace HXl : Hid (Lim w3 (some ⟨w1.heap.size, 0, none⟩) 1 1 [X]) := HXl.out.below hB
  replace HYl : Hid (Lim w3 (some ⟨w1.heap.size + 1, 0, none⟩) 1 1 [Y]) := HYl.out.below hB
  replace HLa : Hid (Lim w3 Ala mla cla la) := HLa.out.below hB
  replace HHa : Hid (Lim w3 Aha mha cha ha) := HHa.out.below hB
  replace HS := Lib.hid (HS.out.trans (hB.mono HS.out.size))
  obtain ⟨rfl, hqc⟩ : rc = 0 ∧ (AtB X Y k (val lc) (val hc) ∧ val lc ≤ val hc ∧ val hc - val lc ≤ k + 64) := by
    rcases hq with ⟨_, h1, h2, h3, h4⟩ | ⟨h, _⟩
    · rw [Int.toNat_natCast] at h2 h4; exact ⟨h1, h2, h3, h4⟩
    · exact absurd (show AtOk X Y (k : Int) from ⟨⟨by omega, by omega⟩, by have := sblen_32 hx; omega, by have := sblen_32 hy; omega, H3.out.1, H3.out.2⟩) h
  have HLc : Hid (Lim w3 Alc mlc clc lc) := hllc
  have HHc : Hid (Lim w3 Ahc mhc chc hc) := hlhc
  have HQc := Lib.hid hqc
  clear hq hqc hllc hlhc hB H9
  clear HXl HYl
  clear HN
  have HSc := Lib.hid (at_scales (t := t) H3.out.1 HQa.out.1 (by rw [Hk.out]; exact HQc.out.1))
  obtain ⟨T, hT⟩ : ∃ T, 2 ^ t = T := ⟨_, rfl⟩
  rw [hT] at HSc
  have HTt := Lib.hid hT
  clear hT
  have H4 := shl_all Ala mla cla la w3 HLa.out (by omega) t (Or.inl (by have := HLa.out.blen_le; omega))
  rw [HTt.out] at H4
  replace H4 := Lib.hid H4
  go_wp2_with fail
  refine H4.out.mono ?_
  rintro e w4 ⟨A4, m4, c4, d4, rfl, hm4, hl4, hb4, hv4, hB⟩
  replace HT : Hid (Tab w4) := HT.out.below hB
  replace HLa : Hid (Lim w4 Ala mla cla la) := HLa.out.below hB
  replace HHa : Hid (Lim w4 Aha mha cha ha) := HHa.out.below hB
  replace HLc : Hid (Lim w4 Alc mlc clc lc) := HLc.out.below hB
  replace HHc : Hid (Lim w4 Ahc mhc chc hc) := HHc.out.below hB
  replace HS := Lib.hid (HS.out.trans (hB.mono HS.out.size))
  have Hpl : Hid (Lim w4 A4 m4 c4 d4) := hl4
  clear hl4 hB H4
  have HvHpl := Lib.hid hv4
  clear hv4 hb4
  have H4 := shl_all Aha mha cha ha w4 HHa.out (by omega) t (Or.inl (by have := HHa.out.blen_le; omega))
  rw [HTt.out] at H4
  replace H4 := Lib.hid H4
  go_wp2_with fail
  refine H4.out.mono ?_
  rintro e w5 ⟨A5, m5, c5, d5, rfl, hm5, hl5, hb5, hv5, hB⟩
  replace HT : Hid (Tab w5) := HT.out.below hB
  replace HLa : Hid (Lim w5 Ala mla cla la) := HLa.out.below hB
  replace HHa : Hid (Lim w5 Aha mha cha ha) := HHa.out.below hB
  replace HLc : Hid (Lim w5 Alc mlc clc lc) := HLc.out.below hB
  replace HHc : Hid (Lim w5 Ahc mhc chc hc) := HHc.out.below hB
  replace Hpl : Hid (Lim w5 A4 m4 c4 d4) := Hpl.out.below hB
  replace HS := Lib.hid (HS.out.trans (hB.mono HS.out.size))
  have Hql : Hid (Lim w5 A5 m5 c5 d5) := hl5
  clear hl5 hB H4
  have HvHql := Lib.hid hv5
  clear hv5 hb5
  obtain ⟨cp, hcp⟩ : ∃ cv, cmpZ (val d4) (val hc) = cv := ⟨_, rfl⟩
  have bcp : decide (0 < cp) = false := decide_eq_false (by rw [← hcp]; have := cmpZ_down (show val d4 ≤ val hc by rw [HvHpl.out]; exact HSc.out.1); omega)
  have H10 := Lib.hid (cmp_b cp A4 m4 c4 d4 Ahc mhc chc hc w5 Hpl.out HHc.out (by omega) (by omega) hcp)
  clear hcp
  go_wp2_with fail
  refine H10.out.mono ?_
  rintro e w6 ⟨rfl, hB⟩
  replace HT : Hid (Tab w6) := HT.out.below hB
  replace HLa : Hid (Lim w6 Ala mla cla la) := HLa.out.below hB
  replace HHa : Hid (Lim w6 Aha mha cha ha) := HHa.out.below hB
  replace HLc : Hid (Lim w6 Alc mlc clc lc) := HLc.out.below hB
  replace HHc : Hid (Lim w6 Ahc mhc chc hc) := HHc.out.below hB
  replace Hpl : Hid (Lim w6 A4 m4 c4 d4) := Hpl.out.below hB
  replace Hql : Hid (Lim w6 A5 m5 c5 d5) := Hql.out.below hB
  replace HS := Lib.hid (HS.out.trans (hB.mono HS.out.size))
  clear hB H10
  obtain ⟨cq, hcq⟩ : ∃ cv, cmpZ (val lc) (val d5) = cv := ⟨_, rfl⟩
  have bcq : decide (0 < cq) = false := decide_eq_false (by rw [← hcq]; have := cmpZ_down (show val lc ≤ val d5 by rw [HvHql.out]; exact HSc.out.2); omega)
  have H10 := Lib.hid (cmp_b cq Alc mlc clc lc A5 m5 c5 d5 w6 HLc.out Hql.out (by omega) (by omega) hcq)
  clear hcq
  go_wp2_with fail
  refine H10.out.mono ?_
  rintro e w7 ⟨rfl, hB⟩
  replace HT : Hid (Tab w7) := HT.out.below hB
  replace HLa : Hid (Lim w7 Ala mla cla la) := HLa.out.below hB
  replace HHa : Hid (Lim w7 Aha mha cha ha) := HHa.out.below hB
  replace HLc : Hid (Lim w7 Alc mlc clc lc) := HLc.out.below hB
  replace HHc : Hid (Lim w7 Ahc mhc chc hc) := HHc.out.below hB
  replace Hpl : Hid (Lim w7 A4 m4 c4 d4) := Hpl.out.below hB
  replace Hql : Hid (Lim w7 A5 m5 c5 d5) := Hql.out.below hB
  replace HS := Lib.hid (HS.out.trans (hB.mono HS.out.size))
  clear hB H10
  clear Hpl Hql HLc HHc
  clear HSc HvHpl HvHql HTt HQc
  have H11 := Lib.hid (HL2.out (k : Int) w7 HT.out (by omega) (by omega))
  go_wp2_with fail
  refine H11.out.mono ?_
  rintro e w8 ⟨Aln, mln, cln, ln, Ahn, mhn, chn, hn, rn, rfl, hmln, hmhn, hlln, hlhn, hB, hq⟩
  replace HT : Hid (Tab w8) := HT.out.below hB
  replace HLa : Hid (Lim w8 Ala mla cla la) := HLa.out.below hB
  replace HHa : Hid (Lim w8 Aha mha cha ha) := HHa.out.below hB
  replace HS := Lib.hid (HS.out.trans (hB.mono HS.out.size))
  obtain ⟨rfl, hqn⟩ : rn = 0 ∧ (Ln2B k (val ln) (val hn) ∧ val ln ≤ val hn ∧ val hn - val ln ≤ 2 * k + 128) := by
    rcases hq with ⟨_, h1, h2, h3, h4⟩ | ⟨h, _⟩
    · rw [Int.toNat_natCast] at h2 h4; exact ⟨h1, h2, h3, h4⟩
    · exact absurd ⟨by omega, by omega⟩ h
  have HLn : Hid (Lim w8 Aln mln cln ln) := hlln
  have HHn : Hid (Lim w8 Ahn mhn chn hn) := hlhn
  have HQn := Lib.hid hqn
  clear hq hqn hlln hlhn hB H11
  have H12 := Lib.hid (wide_yes Aln mln cln ln Ahn mhn chn hn t128 w8 HLn.out HHn.out (by omega) (by omega) (by omega) HQn.out.2.1 (by have := HQn.out.2.2; rw [← H128.out]; exact this))
  go_wp2_with fail
  refine H12.out.mono ?_
  rintro e w9 ⟨rfl, hB⟩
  replace HT : Hid (Tab w9) := HT.out.below hB
  replace HLa : Hid (Lim w9 Ala mla cla la) := HLa.out.below hB
  replace HHa : Hid (Lim w9 Aha mha cha ha) := HHa.out.below hB
  replace HLn : Hid (Lim w9 Aln mln cln ln) := HLn.out.below hB
  replace HHn : Hid (Lim w9 Ahn mhn chn hn) := HHn.out.below hB
  replace HS := Lib.hid (HS.out.trans (hB.mono HS.out.size))
  clear hB H12
  have H13 := Lib.hid (num_any 1 (by decide) w9)
  go_wp2_with fail
  refine H13.out.mono ?_
  rintro e w10 ⟨A10, m10, c10, d10, rfl, hm10, hl10, hb10, hv10, hB⟩
  replace HT : Hid (Tab w10) := HT.out.below hB
  replace HLa : Hid (Lim w10 Ala mla cla la) := HLa.out.below hB
  replace HHa : Hid (Lim w10 Aha mha cha ha) := HHa.out.below hB
  replace HLn : Hid (Lim w10 Aln mln cln ln) := HLn.out.below hB
  replace HHn : Hid (Lim w10 Ahn mhn chn hn) := HHn.out.below hB
  replace HS := Lib.hid (HS.out.trans (hB.mono HS.out.size))
  have H1n : Hid (Dig w10 A10 m10 c10 d10 ∧ D.Bare d10 ∧ D.val d10 = 1) := ⟨hl10, hb10, hv10⟩
  clear hl10 hb10 hv10 hB H13
  have H14 := Lib.hid (num_any 3 (by decide) w10)
  go_wp2_with fail
  refine H14.out.mono ?_
  rintro e w11 ⟨A11, m11, c11, d11, rfl, hm11, hl11, hb11, hv11, hB⟩
  replace HT : Hid (Tab w11) := HT.out.below hB
  replace HLa : Hid (Lim w11 Ala mla cla la) := HLa.out.below hB
  replace HHa : Hid (Lim w11 Aha mha cha ha) := HHa.out.below hB
  replace HLn : Hid (Lim w11 Aln mln cln ln) := HLn.out.below hB
  replace HHn : Hid (Lim w11 Ahn mhn chn hn) := HHn.out.below hB
  replace H1n : Hid (Dig w11 A10 m10 c10 d10 ∧ D.Bare d10 ∧ D.val d10 = 1) := ⟨H1n.out.1.below hB, H1n.out.2⟩
  replace HS := Lib.hid (HS.out.trans (hB.mono HS.out.size))
  have H3n : Hid (Dig w11 A11 m11 c11 d11 ∧ D.Bare d11 ∧ D.val d11 = 3) := ⟨hl11, hb11, hv11⟩
  clear hl11 hb11 hv11 hB H14
  have H15 := ratanh_l t80 A10 m10 c10 d10 A11 m11 c11 d11 w11 H1n.out.1 H3n.out.1 H1n.out.2.1 H3n.out.2.1 (by omega) (by omega) (by omega) (by rw [H3n.out.2.2]; decide) (by rw [H1n.out.2.2, H3n.out.2.2]; decide)
  rw [H1n.out.2.2, H3n.out.2.2] at H15
  have hh := ln2_holds HQn.out.1
  rw [H80.out] at hh
  obtain ⟨V, hV⟩ : ∃ V, dA (2 ^ t80) 1 3 (t80 / 3 + 3) = V := ⟨_, rfl⟩
  rw [hV] at H15 hh
  have HHo := Lib.hid hh
  replace H15 := Lib.hid H15
  clear hh hV
  clear H1n H3n
  go_wp2_with fail
  refine H15.out.mono ?_
  rintro e w12 ⟨A12, m12, c12, d12, rfl, hm12, hl12, hb12, hv12, hB⟩
  replace HT : Hid (Tab w12) := HT.out.below hB
  replace HLa : Hid (Lim w12 Ala mla cla la) := HLa.out.below hB
  replace HHa : Hid (Lim w12 Aha mha cha ha) := HHa.out.below hB
  replace HLn : Hid (Lim w12 Aln mln cln ln) := HLn.out.below hB
  replace HHn : Hid (Lim w12 Ahn mhn chn hn) := HHn.out.below hB
  replace HS := Lib.hid (HS.out.trans (hB.mono HS.out.size))
  have HVd : Hid (Dig w12 A12 m12 c12 d12 ∧ D.Bare d12 ∧ D.val d12 = V) := ⟨hl12, hb12, hv12⟩
  clear hl12 hb12 hv12 hB H15
  have H16 := Lib.hid (num_any 2 (by decide) w12)
  go_wp2_with fail
  refine H16.out.mono ?_
  rintro e w13 ⟨A13, m13, c13, d13, rfl, hm13, hl13, hb13, hv13, hB⟩
  replace HT : Hid (Tab w13) := HT.out.below hB
  replace HLa : Hid (Lim w13 Ala mla cla la) := HLa.out.below hB
  replace HHa : Hid (Lim w13 Aha mha cha ha) := HHa.out.below hB
  replace HLn : Hid (Lim w13 Aln mln cln ln) := HLn.out.below hB
  replace HHn : Hid (Lim w13 Ahn mhn chn hn) := HHn.out.below hB
  replace HVd : Hid (Dig w13 A12 m12 c12 d12 ∧ D.Bare d12 ∧ D.val d12 = V) := ⟨HVd.out.1.below hB, HVd.out.2⟩
  replace HS := Lib.hid (HS.out.trans (hB.mono HS.out.size))
  have H2n : Hid (Dig w13 A13 m13 c13 d13 ∧ D.Bare d13 ∧ D.val d13 = 2) := ⟨hl13, hb13, hv13⟩
  clear hl13 hb13 hv13 hB H16
  have H17 := rmul_any A12 m12 c12 d12 A13 m13 c13 d13 w13 HVd.out.1 H2n.out.1 (by omega) (by omega)
  rw [HVd.out.2.2, H2n.out.2.2] at H17
  replace H17 := Lib.hid H17
  go_wp2_with fail
  refine H17.out.mono ?_
  rintro e w14 ⟨A14, m14, c14, d14, rfl, hm14, hl14, hb14, hv14, hB⟩
  replace HT : Hid (Tab w14) := HT.out.below hB
  replace HLa : Hid (Lim w14 Ala mla cla la) := HLa.out.below hB
  replace HHa : Hid (Lim w14 Aha mha cha ha) := HHa.out.below hB
  replace HLn : Hid (Lim w14 Aln mln cln ln) := HLn.out.below hB
  replace HHn : Hid (Lim w14 Ahn mhn chn hn) := HHn.out.below hB
  replace HVd : Hid (Dig w14 A12 m12 c12 d12 ∧ D.Bare d12 ∧ D.val d12 = V) := ⟨HVd.out.1.below hB, HVd.out.2⟩
  replace H2n : Hid (Dig w14 A13 m13 c13 d13 ∧ D.Bare d13 ∧ D.val d13 = 2) := ⟨H2n.out.1.below hB, H2n.out.2⟩
  replace HS := Lib.hid (HS.out.trans (hB.mono HS.out.size))
  have HV2 : Hid (Dig w14 A14 m14 c14 d14 ∧ D.Bare d14 ∧ D.val d14 = V * 2) := ⟨hl14, hb14, hv14⟩
  clear hl14 hb14 hv14 hB H17
  clear HVd H2n
  have H18 := Lib.hid (holds_yes Aln mln cln ln Ahn mhn chn hn A14 m14 c14 d14 (V * 2) w14 HLn.out HHn.out HV2.out.1 HV2.out.2.1 HV2.out.2.2 (by omega) (by omega) (by omega) HHo.out.1 HHo.out.2)
  clear HV2 HLn HHn
  go_wp2_with fail
  refine H18.out.mono ?_
  rintro e w15 ⟨rfl, hB⟩
  replace HT : Hid (Tab w15) := HT.out.below hB
  replace HLa : Hid (Lim w15 Ala mla cla la) := HLa.out.below hB
  replace HHa : Hid (Lim w15 Aha mha cha ha) := HHa.out.below hB
  replace HS := Lib.hid (HS.out.trans (hB.mono HS.out.size))
  clear hB H18
  clear HHo HQn HL2 H128 H80
  have H19 := HW.out Ala mla cla la Aha mha cha ha (i : Int) false w15 HLa.out HHa.out (by omega) (by omega) HT.out (by omega) (by omega) HQa.out.2.1
  replace H19 := Lib.hid H19
  clear HW
  go_wp2_with fail
  refine H19.out.mono ?_
  rintro e w16 ⟨g1, A1, m1, c1, zs, f1, g2, A2, m2, c2, us, f2, rfl, hm1, hm2, hl1, hl2, hb1, hb2, hB, hd1, hd2⟩
  replace HT : Hid (Tab w16) := HT.out.below hB
  replace HLa : Hid (Lim w16 Ala mla cla la) := HLa.out.below hB
  replace HHa : Hid (Lim w16 Aha mha cha ha) := HHa.out.below hB
  replace HS := Lib.hid (HS.out.trans (hB.mono HS.out.size))
  have HZ : Hid (Lim w16 A1 m1 c1 zs) := hl1
  have HU : Hid (Lim w16 A2 m2 c2 us) := hl2
  replace hd1 : mk false (val la) (-(i : Int)) = some ⟨g1, val zs, f1⟩ := hd1
  replace hd2 : mk false (val ha) (-(i : Int)) = some ⟨g2, val us, f2⟩ := hd2
  have HOr : Hid (cmpI (dw g1 (val zs) f1) (dw g2 (val us) f2) ≤ 0) := within_ord (g := false) (a := val la) (b := val ha) (E := -(i : Int)) (d1 := ⟨g1, val zs, f1⟩) (d2 := ⟨g2, val us, f2⟩) HQa.out.2.1 hd1 hd2
  have HD1 := Lib.hid hd1
  have HD2 := Lib.hid hd2
  have HBz : Hid (Bare zs ∧ Bare us) := ⟨hb1, hb2⟩
  clear hd1 hd2 hb1 hb2 hl1 hl2 hB H19
  have hI := Ib.new w16 g1 A1 m1 c1 f1 g2 A2 m2 c2 f2
  have bI := below1 w16 (.cells #[.bool g1, .slice A1 m1 c1, .int .i64 f1, .bool g2, .slice A2 m2 c2, .int .i64 f2] 48)
  replace HT : Hid (Tab (w16.alloc (.cells #[.bool g1, .slice A1 m1 c1, .int .i64 f1, .bool g2, .slice A2 m2 c2, .int .i64 f2] 48))) := HT.out.below bI
  replace HLa : Hid (Lim (w16.alloc (.cells #[.bool g1, .slice A1 m1 c1, .int .i64 f1, .bool g2, .slice A2 m2 c2, .int .i64 f2] 48)) Ala mla cla la) := HLa.out.below bI
  replace HHa : Hid (Lim (w16.alloc (.cells #[.bool g1, .slice A1 m1 c1, .int .i64 f1, .bool g2, .slice A2 m2 c2, .int .i64 f2] 48)) Aha mha cha ha) := HHa.out.below bI
  replace HZ : Hid (Lim (w16.alloc (.cells #[.bool g1, .slice A1 m1 c1, .int .i64 f1, .bool g2, .slice A2 m2 c2, .int .i64 f2] 48)) A1 m1 c1 zs) := HZ.out.below bI
  replace HU : Hid (Lim (w16.alloc (.cells #[.bool g1, .slice A1 m1 c1, .int .i64 f1, .bool g2, .slice A2 m2 c2, .int .i64 f2] 48)) A2 m2 c2 us) := HU.out.below bI
  replace HS := Lib.hid (HS.out.trans (bI.mono HS.out.size))
  have HI : Hid (Ib (w16.alloc (.cells #[.bool g1, .slice A1 m1 c1, .int .i64 f1, .bool g2, .slice A2 m2 c2, .int .i64 f2] 48)) w16.heap.size g1 A1 m1 c1 f1 g2 A2 m2 c2 f2) := hI
  clear hI bI
  have H20 := Lib.hid (to_any Ala mla cla la (w16.alloc (.cells #[.bool g1, .slice A1 m1 c1, .int .i64 f1, .bool g2, .slice A2 m2 c2, .int .i64 f2] 48)) HLa.out (by omega))
  clear HLa
  go_wp2_with fail
  refine H20.out.mono ?_
  rintro e w17 ⟨A17, m17, c17, d17, rfl, hm17, hl17, hb17, hv17, hB⟩
  replace HT : Hid (Tab w17) := HT.out.below hB
  replace HHa : Hid (Lim w17 Aha mha cha ha) := HHa.out.below hB
  replace HZ : Hid (Lim w17 A1 m1 c1 zs) := HZ.out.below hB
  replace HU : Hid (Lim w17 A2 m2 c2 us) := HU.out.below hB
  replace HI : Hid (Ib w17 w16.heap.size g1 A1 m1 c1 f1 g2 A2 m2 c2 f2) := HI.out.below hB
  replace HS := Lib.hid (HS.out.trans (hB.mono HS.out.size))
  have Hda : Hid (Dig w17 A17 m17 c17 d17 ∧ D.Bare d17 ∧ D.val d17 = val la) := ⟨hl17, hb17, hv17⟩
  clear hl17 hb17 hv17 hB H20
  have H20 := Lib.hid (to_any Aha mha cha ha w17 HHa.out (by omega))
  clear HHa
  go_wp2_with fail
  refine H20.out.mono ?_
  rintro e w18 ⟨A18, m18, c18, d18, rfl, hm18, hl18, hb18, hv18, hB⟩
  replace HT : Hid (Tab w18) := HT.out.below hB
  replace HZ : Hid (Lim w18 A1 m1 c1 zs) := HZ.out.below hB
  replace HU : Hid (Lim w18 A2 m2 c2 us) := HU.out.below hB
  replace HI : Hid (Ib w18 w16.heap.size g1 A1 m1 c1 f1 g2 A2 m2 c2 f2) := HI.out.below hB
  replace Hda : Hid (Dig w18 A17 m17 c17 d17 ∧ D.Bare d17 ∧ D.val d17 = val la) := ⟨Hda.out.1.below hB, Hda.out.2⟩
  replace HS := Lib.hid (HS.out.trans (hB.mono HS.out.size))
  have Hdb : Hid (Dig w18 A18 m18 c18 d18 ∧ D.Bare d18 ∧ D.val d18 = val ha) := ⟨hl18, hb18, hv18⟩
  clear hl18 hb18 hv18 hB H20
  have hsh := at_short H3.out.1 H3.out.2 HQa.out.1
  have hwd := HQa.out.2.2
  have htwo := two_up (show 8 ≤ i from hi8)
  have hsh2 : val ha ≤ 3 * 2 ^ i := by omega
  have hna : m17 ≤ 197 := dlen_le Hda.out.1 Hda.out.2.1 Hda.out.2.2 (k := i + 2) (by rw [Nat.pow_add]; omega) (by omega)
  have hnb : m18 ≤ 197 := dlen_le Hdb.out.1 Hdb.out.2.1 Hdb.out.2.2 (k := i + 2) (by rw [Nat.pow_add]; omega) (by omega)
  clear hsh hsh2 hwd htwo
  have hBB := laid_two w18 51 false A17 m17 c17 (-(i : Int)) A18 m18 c18
  have hB9 := hBB.1
  have HN1 : Hid (Bd ((w18.alloc (.cells #[.bool false, .slice A17 m17 c17, .int .i64 (-(i : Int))] 51)).alloc (.cells #[.bool false, .slice A18 m18 c18, .int .i64 (-(i : Int))] 51)) w18.heap.size 51 false A17 m17 c17 (-(i : Int))) := hBB.2.1
  have HN2 : Hid (Bd ((w18.alloc (.cells #[.bool false, .slice A17 m17 c17, .int .i64 (-(i : Int))] 51)).alloc (.cells #[.bool false, .slice A18 m18 c18, .int .i64 (-(i : Int))] 51)) (w18.heap.size + 1) 51 false A18 m18 c18 (-(i : Int))) := hBB.2.2
  replace HT : Hid (Tab ((w18.alloc (.cells #[.bool false, .slice A17 m17 c17, .int .i64 (-(i : Int))] 51)).alloc (.cells #[.bool false, .slice A18 m18 c18, .int .i64 (-(i : Int))] 51))) := HT.out.below hB9
  replace HZ : Hid (Lim ((w18.alloc (.cells #[.bool false, .slice A17 m17 c17, .int .i64 (-(i : Int))] 51)).alloc (.cells #[.bool false, .slice A18 m18 c18, .int .i64 (-(i : Int))] 51)) A1 m1 c1 zs) := HZ.out.below hB9
  replace HU : Hid (Lim ((w18.alloc (.cells #[.bool false, .slice A17 m17 c17, .int .i64 (-(i : Int))] 51)).alloc (.cells #[.bool false, .slice A18 m18 c18, .int .i64 (-(i : Int))] 51)) A2 m2 c2 us) := HU.out.below hB9
  replace HI : Hid (Ib ((w18.alloc (.cells #[.bool false, .slice A17 m17 c17, .int .i64 (-(i : Int))] 51)).alloc (.cells #[.bool false, .slice A18 m18 c18, .int .i64 (-(i : Int))] 51)) w16.heap.size g1 A1 m1 c1 f1 g2 A2 m2 c2 f2) := HI.out.below hB9
  replace Hda : Hid (Dig ((w18.alloc (.cells #[.bool false, .slice A17 m17 c17, .int .i64 (-(i : Int))] 51)).alloc (.cells #[.bool false, .slice A18 m18 c18, .int .i64 (-(i : Int))] 51)) A17 m17 c17 d17 ∧ D.Bare d17 ∧ D.val d17 = val la) := ⟨Hda.out.1.below hB9, Hda.out.2⟩
  replace Hdb : Hid (Dig ((w18.alloc (.cells #[.bool false, .slice A17 m17 c17, .int .i64 (-(i : Int))] 51)).alloc (.cells #[.bool false, .slice A18 m18 c18, .int .i64 (-(i : Int))] 51)) A18 m18 c18 d18 ∧ D.Bare d18 ∧ D.val d18 = val ha) := ⟨Hdb.out.1.below hB9, Hdb.out.2⟩
  replace HS := Lib.hid (HS.out.trans (hB9.mono HS.out.size))
  clear hBB hB9
  have H21 := Lib.hid (rto_every ⟨g1, val zs, f1⟩ false _ (-(i : Int)) A17 m17 c17 d17 ((w18.alloc (.cells #[.bool false, .slice A17 m17 c17, .int .i64 (-(i : Int))] 51)).alloc (.cells #[.bool false, .slice A18 m18 c18, .int .i64 (-(i : Int))] 51)) Hda.out.1 Hda.out.2.1 Hda.out.2.2 hna HD1.out)
  have n0e := HN1.out.c0
  have n1e := HN1.out.c1
  have n2e := HN1.out.c2
  go_wp2_with fail
  refine H21.out.mono ?_
  rintro e w19 ⟨Ae, me, ce, es, rfl, hme, hle, hbe, hve, hB⟩
  clear n0e n1e n2e
  replace HT : Hid (Tab w19) := HT.out.below hB
  replace HZ : Hid (Lim w19 A1 m1 c1 zs) := HZ.out.below hB
  replace HU : Hid (Lim w19 A2 m2 c2 us) := HU.out.below hB
  replace HI : Hid (Ib w19 w16.heap.size g1 A1 m1 c1 f1 g2 A2 m2 c2 f2) := HI.out.below hB
  replace Hda : Hid (Dig w19 A17 m17 c17 d17 ∧ D.Bare d17 ∧ D.val d17 = val la) := ⟨Hda.out.1.below hB, Hda.out.2⟩
  replace Hdb : Hid (Dig w19 A18 m18 c18 d18 ∧ D.Bare d18 ∧ D.val d18 = val ha) := ⟨Hdb.out.1.below hB, Hdb.out.2⟩
  replace HN1 : Hid (Bd w19 w18.heap.size 51 false A17 m17 c17 (-(i : Int))) := HN1.out.below hB
  replace HN2 : Hid (Bd w19 (w18.heap.size + 1) 51 false A18 m18 c18 (-(i : Int))) := HN2.out.below hB
  replace HS := Lib.hid (HS.out.trans (hB.mono HS.out.size))
  have HLe : Hid (Lim w19 Ae me ce es) := hle
  have heqe : es = zs := bare_eq hle.words HZ.out.words hbe HBz.out.1 hve
  have hmee : me = m1 := by rw [← hle.len, heqe, HZ.out.len]
  rw [heqe, hmee] at HLe
  rw [hmee]
  have hDe := Bd.new w19 52 g1 Ae m1 ce f1
  have bDe := below1 w19 (.cells #[.bool g1, .slice Ae m1 ce, .int .i64 f1] 52)
  replace HT : Hid (Tab (w19.alloc (.cells #[.bool g1, .slice Ae m1 ce, .int .i64 f1] 52))) := HT.out.below bDe
  replace HZ : Hid (Lim (w19.alloc (.cells #[.bool g1, .slice Ae m1 ce, .int .i64 f1] 52)) A1 m1 c1 zs) := HZ.out.below bDe
  replace HU : Hid (Lim (w19.alloc (.cells #[.bool g1, .slice Ae m1 ce, .int .i64 f1] 52)) A2 m2 c2 us) := HU.out.below bDe
  replace HI : Hid (Ib (w19.alloc (.cells #[.bool g1, .slice Ae m1 ce, .int .i64 f1] 52)) w16.heap.size g1 A1 m1 c1 f1 g2 A2 m2 c2 f2) := HI.out.below bDe
  replace Hda : Hid (Dig (w19.alloc (.cells #[.bool g1, .slice Ae m1 ce, .int .i64 f1] 52)) A17 m17 c17 d17 ∧ D.Bare d17 ∧ D.val d17 = val la) := ⟨Hda.out.1.below bDe, Hda.out.2⟩
  replace Hdb : Hid (Dig (w19.alloc (.cells #[.bool g1, .slice Ae m1 ce, .int .i64 f1] 52)) A18 m18 c18 d18 ∧ D.Bare d18 ∧ D.val d18 = val ha) := ⟨Hdb.out.1.below bDe, Hdb.out.2⟩
  replace HN1 : Hid (Bd (w19.alloc (.cells #[.bool g1, .slice Ae m1 ce, .int .i64 f1] 52)) w18.heap.size 51 false A17 m17 c17 (-(i : Int))) := HN1.out.below bDe
  replace HN2 : Hid (Bd (w19.alloc (.cells #[.bool g1, .slice Ae m1 ce, .int .i64 f1] 52)) (w18.heap.size + 1) 51 false A18 m18 c18 (-(i : Int))) := HN2.out.below bDe
  replace HLe : Hid (Lim (w19.alloc (.cells #[.bool g1, .slice Ae m1 ce, .int .i64 f1] 52)) Ae m1 ce zs) := HLe.out.below bDe
  replace HS := Lib.hid (HS.out.trans (bDe.mono HS.out.size))
  have HBe : Hid (Bd (w19.alloc (.cells #[.bool g1, .slice Ae m1 ce, .int .i64 f1] 52)) w19.heap.size 52 g1 Ae m1 ce f1) := hDe
  clear hDe bDe hle hbe hve hB H21 hme heqe hmee
  clear HN1
  clear Hda
  have H21 := Lib.hid (rto_every ⟨g2, val us, f2⟩ false _ (-(i : Int)) A18 m18 c18 d18 (w19.alloc (.cells #[.bool g1, .slice Ae m1 ce, .int .i64 f1] 52)) Hdb.out.1 Hdb.out.2.1 Hdb.out.2.2 hnb HD2.out)
  have n0o := HN2.out.c0
  have n1o := HN2.out.c1
  have n2o := HN2.out.c2
  go_wp2_with fail
  refine H21.out.mono ?_
  rintro e w20 ⟨Ao, mo, co, os, rfl, hmo, hlo, hbo, hvo, hB⟩
  clear n0o n1o n2o
  replace HT : Hid (Tab w20) := HT.out.below hB
  replace HZ : Hid (Lim w20 A1 m1 c1 zs) := HZ.out.below hB
  replace HU : Hid (Lim w20 A2 m2 c2 us) := HU.out.below hB
  replace HI : Hid (Ib w20 w16.heap.size g1 A1 m1 c1 f1 g2 A2 m2 c2 f2) := HI.out.below hB
  replace Hdb : Hid (Dig w20 A18 m18 c18 d18 ∧ D.Bare d18 ∧ D.val d18 = val ha) := ⟨Hdb.out.1.below hB, Hdb.out.2⟩
  replace HN2 : Hid (Bd w20 (w18.heap.size + 1) 51 false A18 m18 c18 (-(i : Int))) := HN2.out.below hB
  replace HLe : Hid (Lim w20 Ae m1 ce zs) := HLe.out.below hB
  replace HBe : Hid (Bd w20 w19.heap.size 52 g1 Ae m1 ce f1) := HBe.out.below hB
  replace HS := Lib.hid (HS.out.trans (hB.mono HS.out.size))
  have HLo : Hid (Lim w20 Ao mo co os) := hlo
  have heqo : os = us := bare_eq hlo.words HU.out.words hbo HBz.out.2 hvo
  have hmeo : mo = m2 := by rw [← hlo.len, heqo, HU.out.len]
  rw [heqo, hmeo] at HLo
  rw [hmeo]
  have hDo := Bd.new w20 52 g2 Ao m2 co f2
  have bDo := below1 w20 (.cells #[.bool g2, .slice Ao m2 co, .int .i64 f2] 52)
  replace HT : Hid (Tab (w20.alloc (.cells #[.bool g2, .slice Ao m2 co, .int .i64 f2] 52))) := HT.out.below bDo
  replace HZ : Hid (Lim (w20.alloc (.cells #[.bool g2, .slice Ao m2 co, .int .i64 f2] 52)) A1 m1 c1 zs) := HZ.out.below bDo
  replace HU : Hid (Lim (w20.alloc (.cells #[.bool g2, .slice Ao m2 co, .int .i64 f2] 52)) A2 m2 c2 us) := HU.out.below bDo
  replace HI : Hid (Ib (w20.alloc (.cells #[.bool g2, .slice Ao m2 co, .int .i64 f2] 52)) w16.heap.size g1 A1 m1 c1 f1 g2 A2 m2 c2 f2) := HI.out.below bDo
  replace Hdb : Hid (Dig (w20.alloc (.cells #[.bool g2, .slice Ao m2 co, .int .i64 f2] 52)) A18 m18 c18 d18 ∧ D.Bare d18 ∧ D.val d18 = val ha) := ⟨Hdb.out.1.below bDo, Hdb.out.2⟩
  replace HN2 : Hid (Bd (w20.alloc (.cells #[.bool g2, .slice Ao m2 co, .int .i64 f2] 52)) (w18.heap.size + 1) 51 false A18 m18 c18 (-(i : Int))) := HN2.out.below bDo
  replace HLe : Hid (Lim (w20.alloc (.cells #[.bool g2, .slice Ao m2 co, .int .i64 f2] 52)) Ae m1 ce zs) := HLe.out.below bDo
  replace HBe : Hid (Bd (w20.alloc (.cells #[.bool g2, .slice Ao m2 co, .int .i64 f2] 52)) w19.heap.size 52 g1 Ae m1 ce f1) := HBe.out.below bDo
  replace HLo : Hid (Lim (w20.alloc (.cells #[.bool g2, .slice Ao m2 co, .int .i64 f2] 52)) Ao m2 co us) := HLo.out.below bDo
  replace HS := Lib.hid (HS.out.trans (bDo.mono HS.out.size))
  have HBo : Hid (Bd (w20.alloc (.cells #[.bool g2, .slice Ao m2 co, .int .i64 f2] 52)) w20.heap.size 52 g2 Ao m2 co f2) := hDo
  clear hDo bDo hlo hbo hvo hB H21 hmo heqo hmeo
  clear HN2
  clear Hdb
  clear HQa HD1 HD2 hna hnb HBz H3 Hk
  have H22 := Lib.hid (fsame_yes g1 A1 m1 c1 zs f1 Ae ce (w20.alloc (.cells #[.bool g2, .slice Ao m2 co, .int .i64 f2] 52)) HZ.out HLe.out (by omega))
  have i0 := HI.out.x0
  have i1 := HI.out.x1
  have i2 := HI.out.x2
  have i3 := HI.out.x3
  have i4 := HI.out.x4
  have i5 := HI.out.x5
  have HBe0 := HBe.out.c0
  have HBe1 := HBe.out.c1
  have HBe2 := HBe.out.c2
  go_wp2_with fail
  refine H22.out.mono ?_
  rintro e w21 ⟨rfl, hB⟩
  clear i0 i1 i2 i3 i4 i5 HBe0 HBe1 HBe2
  replace HT : Hid (Tab w21) := HT.out.below hB
  replace HZ : Hid (Lim w21 A1 m1 c1 zs) := HZ.out.below hB
  replace HU : Hid (Lim w21 A2 m2 c2 us) := HU.out.below hB
  replace HI : Hid (Ib w21 w16.heap.size g1 A1 m1 c1 f1 g2 A2 m2 c2 f2) := HI.out.below hB
  replace HLe : Hid (Lim w21 Ae m1 ce zs) := HLe.out.below hB
  replace HBe : Hid (Bd w21 w19.heap.size 52 g1 Ae m1 ce f1) := HBe.out.below hB
  replace HLo : Hid (Lim w21 Ao m2 co us) := HLo.out.below hB
  replace HBo : Hid (Bd w21 w20.heap.size 52 g2 Ao m2 co f2) := HBo.out.below hB
  replace HS := Lib.hid (HS.out.trans (hB.mono HS.out.size))
  clear hB H22
  clear HBe HLe
  have H23 := Lib.hid (fsame_yes g2 A2 m2 c2 us f2 Ao co w21 HU.out HLo.out (by omega))
  have i0 := HI.out.x0
  have i1 := HI.out.x1
  have i2 := HI.out.x2
  have i3 := HI.out.x3
  have i4 := HI.out.x4
  have i5 := HI.out.x5
  have HBo0 := HBo.out.c0
  have HBo1 := HBo.out.c1
  have HBo2 := HBo.out.c2
  go_wp2_with fail
  refine H23.out.mono ?_
  rintro e w22 ⟨rfl, hB⟩
  clear i0 i1 i2 i3 i4 i5 HBo0 HBo1 HBo2
  replace HT : Hid (Tab w22) := HT.out.below hB
  replace HZ : Hid (Lim w22 A1 m1 c1 zs) := HZ.out.below hB
  replace HU : Hid (Lim w22 A2 m2 c2 us) := HU.out.below hB
  replace HI : Hid (Ib w22 w16.heap.size g1 A1 m1 c1 f1 g2 A2 m2 c2 f2) := HI.out.below hB
  replace HLo : Hid (Lim w22 Ao m2 co us) := HLo.out.below hB
  replace HBo : Hid (Bd w22 w20.heap.size 52 g2 Ao m2 co f2) := HBo.out.below hB
  replace HS := Lib.hid (HS.out.trans (hB.mono HS.out.size))
  clear hB H23
  clear HBo HLo
  obtain ⟨cd, hcd⟩ : ∃ cv, cmpI (dw g1 (val zs) f1) (dw g2 (val us) f2) = cv := ⟨_, rfl⟩
  have bcd : decide (cd ≤ 0) = true := decide_eq_true (by rw [← hcd]; exact HOr.out)
  have H24 := Lib.hid (dcmp_l cd g1 A1 m1 c1 zs f1 g2 A2 m2 c2 us f2 w22 HZ.out HU.out (by omega) (by omega) HT.out hcd)
  clear hcd HOr
  have i0 := HI.out.x0
  have i1 := HI.out.x1
  have i2 := HI.out.x2
  have i3 := HI.out.x3
  have i4 := HI.out.x4
  have i5 := HI.out.x5
  go_wp2_with fail
  refine H24.out.mono ?_
  rintro e w23 ⟨rfl, hB⟩
  clear i0 i1 i2 i3 i4 i5
  replace HT : Hid (Tab w23) := HT.out.below hB
  replace HZ : Hid (Lim w23 A1 m1 c1 zs) := HZ.out.below hB
  replace HU : Hid (Lim w23 A2 m2 c2 us) := HU.out.below hB
  replace HI : Hid (Ib w23 w16.heap.size g1 A1 m1 c1 f1 g2 A2 m2 c2 f2) := HI.out.below hB
  replace HS := Lib.hid (HS.out.trans (hB.mono HS.out.size))
  clear hB H24
  have Hfin := Lib.hid HS.out
  clear HS HT HZ HU HI
  go_wp2
  go_ret
  exact ⟨rfl, Hfin.out⟩

set_option maxHeartbeats 4000000 in
set_option maxRecDepth 20000 in
theorem sscales_true (HAt : AtanhMeets) (HLn : Ln2Meets) (HWi : WithinMeets) (X Y s t : Nat) (w : World) (hT : Tab w) (hx : X < 4294967296) (hy : Y < 4294967296) (hs : s ≤ 255) (ht : t ≤ 255) (h0 : Y ≠ 0) (hle : X ≤ Y / 3) :
    Calls Tryd.prog 5 #[.int .u32 (X : Int), .int .u32 (Y : Int), .int .u8 (s : Int), .int .u8 (t : Int), .bool true] w fun e w' => e = .returned (.bool true) ∧ Below w.heap.size w w' := by
  have H1 := Lib.hid (salive_any HLn w hT)
  have HT := Lib.hid hT
  have HN := Lib.hid HAt
  have HL2 := Lib.hid HLn
  have HW := Lib.hid HWi
  have HS := Lib.hid (Below.refl w.heap.size w)
  have h3 : 3 * X ≤ Y := by omega
  have b0 : ((Y : Int) == 0) = false := beq_no (by omega)
  obtain ⟨q, hq⟩ : ∃ q, Y / 3 = q := ⟨_, rfl⟩
  have e1 : (Y : Int) / 3 = (q : Int) := by omega
  have hq9 : q < 4294967296 := by omega
  have b1 : decide (q < X) = false := decide_eq_false (by omega)
  have b2 : decide ((q : Int) < (X : Int)) = false := decide_eq_false (by omega)
  obtain ⟨i, hi⟩ : ∃ i, 8 + s = i := ⟨_, rfl⟩
  have ei : (8 : Int) + (s : Int) = (i : Int) := by omega
  obtain ⟨k, hk⟩ : ∃ k, i + t = k := ⟨_, rfl⟩
  have ek : (i : Int) + (t : Int) = (k : Int) := by omega
  obtain ⟨p2, hp2⟩ : ∃ p, 2 * k = p := ⟨_, rfl⟩
  have ep2 : (2 : Int) * (k : Int) = (p2 : Int) := by omega
  obtain ⟨t128, ht128⟩ : ∃ p, p2 + 128 = p := ⟨_, rfl⟩
  have e128 : (p2 : Int) + 128 = (t128 : Int) := by omega
  obtain ⟨t80, ht80⟩ : ∃ p, k + 80 = p := ⟨_, rfl⟩
  have e80 : (k : Int) + 80 = (t80 : Int) := by omega
  have hi9 : i ≤ 263 := by omega
  have hk9 : k ≤ 518 := by omega
  have hp9 : p2 ≤ 1036 := by omega
  have h1289 : t128 ≤ 1164 := by omega
  have h809 : t80 ≤ 598 := by omega
  have hk8 : 8 ≤ k := by omega
  have hi8 : 8 ≤ i := by omega
  have Hk := Lib.hid hk
  have H80 := Lib.hid ht80
  have H128 : Hid (2 * k + 128 = t128) := by show _ = _; omega
  have H3 : Hid (Y ≠ 0 ∧ 3 * X ≤ Y) := ⟨h0, h3⟩
  clear HLn HAt HWi hT hi hk hp2 ht128 ht80 hq h0 hle h3
  go_enter Tryd.func5, Tryd.ntmps5
  go_wp2_with fail
  refine H1.out.mono ?_
  rintro e w1 ⟨rfl, hB⟩
  replace HT : Hid (Tab w1) := HT.out.below hB
  replace HS := Lib.hid (HS.out.trans (hB.mono HS.out.size))
  clear hB H1
  have ln1a := lim_new1 w1 38 X (X : Int) rfl (by omega)
  have ba1a := below1 w1 (.cells #[.int .u64 (X : Int)] 38)
  replace HT : Hid (Tab (w1.alloc (.cells #[.int .u64 (X : Int)] 38))) := HT.out.below ba1a
  replace HS := Lib.hid (HS.out.trans (ba1a.mono HS.out.size))
  clear ba1a
  have HXl : Hid (Lim (w1.alloc (.cells #[.int .u64 (X : Int)] 38)) (some ⟨w1.heap.size, 0, none⟩) 1 1 [X]) := ln1a
  clear ln1a
  have ln1b := lim_new1 (w1.alloc (.cells #[.int .u64 (X : Int)] 38)) 38 Y (Y : Int) rfl (by omega)
  rw [World.size_alloc] at ln1b
  have ba1b := below1 (w1.alloc (.cells #[.int .u64 (X : Int)] 38)) (.cells #[.int .u64 (Y : Int)] 38)
  replace HT : Hid (Tab ((w1.alloc (.cells #[.int .u64 (X : Int)] 38)).alloc (.cells #[.int .u64 (Y : Int)] 38))) := HT.out.below ba1b
  replace HXl : Hid (Lim ((w1.alloc (.cells #[.int .u64 (X : Int)] 38)).alloc (.cells #[.int .u64 (Y : Int)] 38)) (some ⟨w1.heap.size, 0, none⟩) 1 1 [X]) := HXl.out.below ba1b
  replace HS := Lib.hid (HS.out.trans (ba1b.mono HS.out.size))
  clear ba1b
  have HYl : Hid (Lim ((w1.alloc (.cells #[.int .u64 (X : Int)] 38)).alloc (.cells #[.int .u64 (Y : Int)] 38)) (some ⟨w1.heap.size + 1, 0, none⟩) 1 1 [Y]) := ln1b
  clear ln1b
  have H9 := HN.out (some ⟨w1.heap.size, 0, none⟩) 1 1 [X] (some ⟨w1.heap.size + 1, 0, none⟩) 1 1 [Y] (i : Int) ((w1.alloc (.cells #[.int .u64 (X : Int)] 38)).alloc (.cells #[.int .u64 (Y : Int)] 38)) HXl.out HYl.out (by decide) (by decide) HT.out (by omega) (by omega)
  rw [sval_one X, sval_one Y] at H9
  replace H9 := Lib.hid H9
  go_wp2_with fail
  refine H9.out.mono ?_
  rintro e w2 ⟨Ala, mla, cla, la, Aha, mha, cha, ha, ra, rfl, hmla, hmha, hlla, hlha, hB, hq⟩
  replace HT : Hid (Tab w2) := HT.out.below hB
  replace HXl : Hid (Lim w2 (some ⟨w1.heap.size, 0, none⟩) 1 1 [X]) := HXl.out.below hB
  replace HYl : Hid (Lim w2 (some ⟨w1.heap.size + 1, 0, none⟩) 1 1 [Y]) := HYl.out.below hB
  replace HS := Lib.hid (HS.out.trans (hB.mono HS.out.size))
  obtain ⟨rfl, hqa⟩ : ra = 0 ∧ (AtB X Y i (val la) (val ha) ∧ val la ≤ val ha ∧ val ha - val la ≤ i + 64) := by
    rcases hq with ⟨_, h1, h2, h3, h4⟩ | ⟨h, _⟩
    · rw [Int.toNat_natCast] at h2 h4; exact ⟨h1, h2, h3, h4⟩
    · exact absurd (show AtOk X Y (i : Int) from ⟨⟨by omega, by omega⟩, by have := sblen_32 hx; omega, by have := sblen_32 hy; omega, H3.out.1, H3.out.2⟩) h
  have HLa : Hid (Lim w2 Ala mla cla la) := hlla
  have HHa : Hid (Lim w2 Aha mha cha ha) := hlha
  have HQa := Lib.hid hqa
  clear hq hqa hlla hlha hB H9
  have H9 := HN.out (some ⟨w1.heap.size, 0, none⟩) 1 1 [X] (some ⟨w1.heap.size + 1, 0, none⟩) 1 1 [Y] (k : Int) w2 HXl.out HYl.out (by decide) (by decide) HT.out (by omega) (by omega)
  rw [sval_one X, sval_one Y] at H9
  replace H9 := Lib.hid H9
  go_wp2_with fail
  refine H9.out.mono ?_
  rintro e w3 ⟨Alc, mlc, clc, lc, Ahc, mhc, chc, hc, rc, rfl, hmlc, hmhc, hllc, hlhc, hB, hq⟩
  replace HT : Hid (Tab w3) := HT.out.below hB
  replace HXl : Hid (Lim w3 (some ⟨w1.heap.size, 0, none⟩) 1 1 [X]) := HXl.out.below hB
  replace HYl : Hid (Lim w3 (some ⟨w1.heap.size + 1, 0, none⟩) 1 1 [Y]) := HYl.out.below hB
  replace HLa : Hid (Lim w3 Ala mla cla la) := HLa.out.below hB
  replace HHa : Hid (Lim w3 Aha mha cha ha) := HHa.out.below hB
  replace HS := Lib.hid (HS.out.trans (hB.mono HS.out.size))
  obtain ⟨rfl, hqc⟩ : rc = 0 ∧ (AtB X Y k (val lc) (val hc) ∧ val lc ≤ val hc ∧ val hc - val lc ≤ k + 64) := by
    rcases hq with ⟨_, h1, h2, h3, h4⟩ | ⟨h, _⟩
    · rw [Int.toNat_natCast] at h2 h4; exact ⟨h1, h2, h3, h4⟩
    · exact absurd (show AtOk X Y (k : Int) from ⟨⟨by omega, by omega⟩, by have := sblen_32 hx; omega, by have := sblen_32 hy; omega, H3.out.1, H3.out.2⟩) h
  have HLc : Hid (Lim w3 Alc mlc clc lc) := hllc
  have HHc : Hid (Lim w3 Ahc mhc chc hc) := hlhc
  have HQc := Lib.hid hqc
  clear hq hqc hllc hlhc hB H9
  clear HXl HYl
  clear HN
  have HSc := Lib.hid (at_scales (t := t) H3.out.1 HQa.out.1 (by rw [Hk.out]; exact HQc.out.1))
  obtain ⟨T, hT⟩ : ∃ T, 2 ^ t = T := ⟨_, rfl⟩
  rw [hT] at HSc
  have HTt := Lib.hid hT
  clear hT
  have H4 := shl_all Ala mla cla la w3 HLa.out (by omega) t (Or.inl (by have := HLa.out.blen_le; omega))
  rw [HTt.out] at H4
  replace H4 := Lib.hid H4
  go_wp2_with fail
  refine H4.out.mono ?_
  rintro e w4 ⟨A4, m4, c4, d4, rfl, hm4, hl4, hb4, hv4, hB⟩
  replace HT : Hid (Tab w4) := HT.out.below hB
  replace HLa : Hid (Lim w4 Ala mla cla la) := HLa.out.below hB
  replace HHa : Hid (Lim w4 Aha mha cha ha) := HHa.out.below hB
  replace HLc : Hid (Lim w4 Alc mlc clc lc) := HLc.out.below hB
  replace HHc : Hid (Lim w4 Ahc mhc chc hc) := HHc.out.below hB
  replace HS := Lib.hid (HS.out.trans (hB.mono HS.out.size))
  have Hpl : Hid (Lim w4 A4 m4 c4 d4) := hl4
  clear hl4 hB H4
  have HvHpl := Lib.hid hv4
  clear hv4 hb4
  have H4 := shl_all Aha mha cha ha w4 HHa.out (by omega) t (Or.inl (by have := HHa.out.blen_le; omega))
  rw [HTt.out] at H4
  replace H4 := Lib.hid H4
  go_wp2_with fail
  refine H4.out.mono ?_
  rintro e w5 ⟨A5, m5, c5, d5, rfl, hm5, hl5, hb5, hv5, hB⟩
  replace HT : Hid (Tab w5) := HT.out.below hB
  replace HLa : Hid (Lim w5 Ala mla cla la) := HLa.out.below hB
  replace HHa : Hid (Lim w5 Aha mha cha ha) := HHa.out.below hB
  replace HLc : Hid (Lim w5 Alc mlc clc lc) := HLc.out.below hB
  replace HHc : Hid (Lim w5 Ahc mhc chc hc) := HHc.out.below hB
  replace Hpl : Hid (Lim w5 A4 m4 c4 d4) := Hpl.out.below hB
  replace HS := Lib.hid (HS.out.trans (hB.mono HS.out.size))
  have Hql : Hid (Lim w5 A5 m5 c5 d5) := hl5
  clear hl5 hB H4
  have HvHql := Lib.hid hv5
  clear hv5 hb5
  obtain ⟨cp, hcp⟩ : ∃ cv, cmpZ (val d4) (val hc) = cv := ⟨_, rfl⟩
  have bcp : decide (0 < cp) = false := decide_eq_false (by rw [← hcp]; have := cmpZ_down (show val d4 ≤ val hc by rw [HvHpl.out]; exact HSc.out.1); omega)
  have H10 := Lib.hid (cmp_b cp A4 m4 c4 d4 Ahc mhc chc hc w5 Hpl.out HHc.out (by omega) (by omega) hcp)
  clear hcp
  go_wp2_with fail
  refine H10.out.mono ?_
  rintro e w6 ⟨rfl, hB⟩
  replace HT : Hid (Tab w6) := HT.out.below hB
  replace HLa : Hid (Lim w6 Ala mla cla la) := HLa.out.below hB
  replace HHa : Hid (Lim w6 Aha mha cha ha) := HHa.out.below hB
  replace HLc : Hid (Lim w6 Alc mlc clc lc) := HLc.out.below hB
  replace HHc : Hid (Lim w6 Ahc mhc chc hc) := HHc.out.below hB
  replace Hpl : Hid (Lim w6 A4 m4 c4 d4) := Hpl.out.below hB
  replace Hql : Hid (Lim w6 A5 m5 c5 d5) := Hql.out.below hB
  replace HS := Lib.hid (HS.out.trans (hB.mono HS.out.size))
  clear hB H10
  obtain ⟨cq, hcq⟩ : ∃ cv, cmpZ (val lc) (val d5) = cv := ⟨_, rfl⟩
  have bcq : decide (0 < cq) = false := decide_eq_false (by rw [← hcq]; have := cmpZ_down (show val lc ≤ val d5 by rw [HvHql.out]; exact HSc.out.2); omega)
  have H10 := Lib.hid (cmp_b cq Alc mlc clc lc A5 m5 c5 d5 w6 HLc.out Hql.out (by omega) (by omega) hcq)
  clear hcq
  go_wp2_with fail
  refine H10.out.mono ?_
  rintro e w7 ⟨rfl, hB⟩
  replace HT : Hid (Tab w7) := HT.out.below hB
  replace HLa : Hid (Lim w7 Ala mla cla la) := HLa.out.below hB
  replace HHa : Hid (Lim w7 Aha mha cha ha) := HHa.out.below hB
  replace HLc : Hid (Lim w7 Alc mlc clc lc) := HLc.out.below hB
  replace HHc : Hid (Lim w7 Ahc mhc chc hc) := HHc.out.below hB
  replace Hpl : Hid (Lim w7 A4 m4 c4 d4) := Hpl.out.below hB
  replace Hql : Hid (Lim w7 A5 m5 c5 d5) := Hql.out.below hB
  replace HS := Lib.hid (HS.out.trans (hB.mono HS.out.size))
  clear hB H10
  clear Hpl Hql HLc HHc
  clear HSc HvHpl HvHql HTt HQc
  have H11 := Lib.hid (HL2.out (k : Int) w7 HT.out (by omega) (by omega))
  go_wp2_with fail
  refine H11.out.mono ?_
  rintro e w8 ⟨Aln, mln, cln, ln, Ahn, mhn, chn, hn, rn, rfl, hmln, hmhn, hlln, hlhn, hB, hq⟩
  replace HT : Hid (Tab w8) := HT.out.below hB
  replace HLa : Hid (Lim w8 Ala mla cla la) := HLa.out.below hB
  replace HHa : Hid (Lim w8 Aha mha cha ha) := HHa.out.below hB
  replace HS := Lib.hid (HS.out.trans (hB.mono HS.out.size))
  obtain ⟨rfl, hqn⟩ : rn = 0 ∧ (Ln2B k (val ln) (val hn) ∧ val ln ≤ val hn ∧ val hn - val ln ≤ 2 * k + 128) := by
    rcases hq with ⟨_, h1, h2, h3, h4⟩ | ⟨h, _⟩
    · rw [Int.toNat_natCast] at h2 h4; exact ⟨h1, h2, h3, h4⟩
    · exact absurd ⟨by omega, by omega⟩ h
  have HLn : Hid (Lim w8 Aln mln cln ln) := hlln
  have HHn : Hid (Lim w8 Ahn mhn chn hn) := hlhn
  have HQn := Lib.hid hqn
  clear hq hqn hlln hlhn hB H11
  have H12 := Lib.hid (wide_yes Aln mln cln ln Ahn mhn chn hn t128 w8 HLn.out HHn.out (by omega) (by omega) (by omega) HQn.out.2.1 (by have := HQn.out.2.2; rw [← H128.out]; exact this))
  go_wp2_with fail
  refine H12.out.mono ?_
  rintro e w9 ⟨rfl, hB⟩
  replace HT : Hid (Tab w9) := HT.out.below hB
  replace HLa : Hid (Lim w9 Ala mla cla la) := HLa.out.below hB
  replace HHa : Hid (Lim w9 Aha mha cha ha) := HHa.out.below hB
  replace HLn : Hid (Lim w9 Aln mln cln ln) := HLn.out.below hB
  replace HHn : Hid (Lim w9 Ahn mhn chn hn) := HHn.out.below hB
  replace HS := Lib.hid (HS.out.trans (hB.mono HS.out.size))
  clear hB H12
  have H13 := Lib.hid (num_any 1 (by decide) w9)
  go_wp2_with fail
  refine H13.out.mono ?_
  rintro e w10 ⟨A10, m10, c10, d10, rfl, hm10, hl10, hb10, hv10, hB⟩
  replace HT : Hid (Tab w10) := HT.out.below hB
  replace HLa : Hid (Lim w10 Ala mla cla la) := HLa.out.below hB
  replace HHa : Hid (Lim w10 Aha mha cha ha) := HHa.out.below hB
  replace HLn : Hid (Lim w10 Aln mln cln ln) := HLn.out.below hB
  replace HHn : Hid (Lim w10 Ahn mhn chn hn) := HHn.out.below hB
  replace HS := Lib.hid (HS.out.trans (hB.mono HS.out.size))
  have H1n : Hid (Dig w10 A10 m10 c10 d10 ∧ D.Bare d10 ∧ D.val d10 = 1) := ⟨hl10, hb10, hv10⟩
  clear hl10 hb10 hv10 hB H13
  have H14 := Lib.hid (num_any 3 (by decide) w10)
  go_wp2_with fail
  refine H14.out.mono ?_
  rintro e w11 ⟨A11, m11, c11, d11, rfl, hm11, hl11, hb11, hv11, hB⟩
  replace HT : Hid (Tab w11) := HT.out.below hB
  replace HLa : Hid (Lim w11 Ala mla cla la) := HLa.out.below hB
  replace HHa : Hid (Lim w11 Aha mha cha ha) := HHa.out.below hB
  replace HLn : Hid (Lim w11 Aln mln cln ln) := HLn.out.below hB
  replace HHn : Hid (Lim w11 Ahn mhn chn hn) := HHn.out.below hB
  replace H1n : Hid (Dig w11 A10 m10 c10 d10 ∧ D.Bare d10 ∧ D.val d10 = 1) := ⟨H1n.out.1.below hB, H1n.out.2⟩
  replace HS := Lib.hid (HS.out.trans (hB.mono HS.out.size))
  have H3n : Hid (Dig w11 A11 m11 c11 d11 ∧ D.Bare d11 ∧ D.val d11 = 3) := ⟨hl11, hb11, hv11⟩
  clear hl11 hb11 hv11 hB H14
  have H15 := ratanh_l t80 A10 m10 c10 d10 A11 m11 c11 d11 w11 H1n.out.1 H3n.out.1 H1n.out.2.1 H3n.out.2.1 (by omega) (by omega) (by omega) (by rw [H3n.out.2.2]; decide) (by rw [H1n.out.2.2, H3n.out.2.2]; decide)
  rw [H1n.out.2.2, H3n.out.2.2] at H15
  have hh := ln2_holds HQn.out.1
  rw [H80.out] at hh
  obtain ⟨V, hV⟩ : ∃ V, dA (2 ^ t80) 1 3 (t80 / 3 + 3) = V := ⟨_, rfl⟩
  rw [hV] at H15 hh
  have HHo := Lib.hid hh
  replace H15 := Lib.hid H15
  clear hh hV
  clear H1n H3n
  go_wp2_with fail
  refine H15.out.mono ?_
  rintro e w12 ⟨A12, m12, c12, d12, rfl, hm12, hl12, hb12, hv12, hB⟩
  replace HT : Hid (Tab w12) := HT.out.below hB
  replace HLa : Hid (Lim w12 Ala mla cla la) := HLa.out.below hB
  replace HHa : Hid (Lim w12 Aha mha cha ha) := HHa.out.below hB
  replace HLn : Hid (Lim w12 Aln mln cln ln) := HLn.out.below hB
  replace HHn : Hid (Lim w12 Ahn mhn chn hn) := HHn.out.below hB
  replace HS := Lib.hid (HS.out.trans (hB.mono HS.out.size))
  have HVd : Hid (Dig w12 A12 m12 c12 d12 ∧ D.Bare d12 ∧ D.val d12 = V) := ⟨hl12, hb12, hv12⟩
  clear hl12 hb12 hv12 hB H15
  have H16 := Lib.hid (num_any 2 (by decide) w12)
  go_wp2_with fail
  refine H16.out.mono ?_
  rintro e w13 ⟨A13, m13, c13, d13, rfl, hm13, hl13, hb13, hv13, hB⟩
  replace HT : Hid (Tab w13) := HT.out.below hB
  replace HLa : Hid (Lim w13 Ala mla cla la) := HLa.out.below hB
  replace HHa : Hid (Lim w13 Aha mha cha ha) := HHa.out.below hB
  replace HLn : Hid (Lim w13 Aln mln cln ln) := HLn.out.below hB
  replace HHn : Hid (Lim w13 Ahn mhn chn hn) := HHn.out.below hB
  replace HVd : Hid (Dig w13 A12 m12 c12 d12 ∧ D.Bare d12 ∧ D.val d12 = V) := ⟨HVd.out.1.below hB, HVd.out.2⟩
  replace HS := Lib.hid (HS.out.trans (hB.mono HS.out.size))
  have H2n : Hid (Dig w13 A13 m13 c13 d13 ∧ D.Bare d13 ∧ D.val d13 = 2) := ⟨hl13, hb13, hv13⟩
  clear hl13 hb13 hv13 hB H16
  have H17 := rmul_any A12 m12 c12 d12 A13 m13 c13 d13 w13 HVd.out.1 H2n.out.1 (by omega) (by omega)
  rw [HVd.out.2.2, H2n.out.2.2] at H17
  replace H17 := Lib.hid H17
  go_wp2_with fail
  refine H17.out.mono ?_
  rintro e w14 ⟨A14, m14, c14, d14, rfl, hm14, hl14, hb14, hv14, hB⟩
  replace HT : Hid (Tab w14) := HT.out.below hB
  replace HLa : Hid (Lim w14 Ala mla cla la) := HLa.out.below hB
  replace HHa : Hid (Lim w14 Aha mha cha ha) := HHa.out.below hB
  replace HLn : Hid (Lim w14 Aln mln cln ln) := HLn.out.below hB
  replace HHn : Hid (Lim w14 Ahn mhn chn hn) := HHn.out.below hB
  replace HVd : Hid (Dig w14 A12 m12 c12 d12 ∧ D.Bare d12 ∧ D.val d12 = V) := ⟨HVd.out.1.below hB, HVd.out.2⟩
  replace H2n : Hid (Dig w14 A13 m13 c13 d13 ∧ D.Bare d13 ∧ D.val d13 = 2) := ⟨H2n.out.1.below hB, H2n.out.2⟩
  replace HS := Lib.hid (HS.out.trans (hB.mono HS.out.size))
  have HV2 : Hid (Dig w14 A14 m14 c14 d14 ∧ D.Bare d14 ∧ D.val d14 = V * 2) := ⟨hl14, hb14, hv14⟩
  clear hl14 hb14 hv14 hB H17
  clear HVd H2n
  have H18 := Lib.hid (holds_yes Aln mln cln ln Ahn mhn chn hn A14 m14 c14 d14 (V * 2) w14 HLn.out HHn.out HV2.out.1 HV2.out.2.1 HV2.out.2.2 (by omega) (by omega) (by omega) HHo.out.1 HHo.out.2)
  clear HV2 HLn HHn
  go_wp2_with fail
  refine H18.out.mono ?_
  rintro e w15 ⟨rfl, hB⟩
  replace HT : Hid (Tab w15) := HT.out.below hB
  replace HLa : Hid (Lim w15 Ala mla cla la) := HLa.out.below hB
  replace HHa : Hid (Lim w15 Aha mha cha ha) := HHa.out.below hB
  replace HS := Lib.hid (HS.out.trans (hB.mono HS.out.size))
  clear hB H18
  clear HHo HQn HL2 H128 H80
  have H19 := HW.out Ala mla cla la Aha mha cha ha (i : Int) true w15 HLa.out HHa.out (by omega) (by omega) HT.out (by omega) (by omega) HQa.out.2.1
  replace H19 := Lib.hid H19
  clear HW
  go_wp2_with fail
  refine H19.out.mono ?_
  rintro e w16 ⟨g1, A1, m1, c1, zs, f1, g2, A2, m2, c2, us, f2, rfl, hm1, hm2, hl1, hl2, hb1, hb2, hB, hd1, hd2⟩
  replace HT : Hid (Tab w16) := HT.out.below hB
  replace HLa : Hid (Lim w16 Ala mla cla la) := HLa.out.below hB
  replace HHa : Hid (Lim w16 Aha mha cha ha) := HHa.out.below hB
  replace HS := Lib.hid (HS.out.trans (hB.mono HS.out.size))
  have HZ : Hid (Lim w16 A1 m1 c1 zs) := hl1
  have HU : Hid (Lim w16 A2 m2 c2 us) := hl2
  replace hd1 : mk true (val ha) (-(i : Int)) = some ⟨g1, val zs, f1⟩ := hd1
  replace hd2 : mk true (val la) (-(i : Int)) = some ⟨g2, val us, f2⟩ := hd2
  have HOr : Hid (cmpI (dw g1 (val zs) f1) (dw g2 (val us) f2) ≤ 0) := within_ord (g := true) (a := val la) (b := val ha) (E := -(i : Int)) (d1 := ⟨g1, val zs, f1⟩) (d2 := ⟨g2, val us, f2⟩) HQa.out.2.1 hd1 hd2
  have HD1 := Lib.hid hd1
  have HD2 := Lib.hid hd2
  have HBz : Hid (Bare zs ∧ Bare us) := ⟨hb1, hb2⟩
  clear hd1 hd2 hb1 hb2 hl1 hl2 hB H19
  have hI := Ib.new w16 g1 A1 m1 c1 f1 g2 A2 m2 c2 f2
  have bI := below1 w16 (.cells #[.bool g1, .slice A1 m1 c1, .int .i64 f1, .bool g2, .slice A2 m2 c2, .int .i64 f2] 48)
  replace HT : Hid (Tab (w16.alloc (.cells #[.bool g1, .slice A1 m1 c1, .int .i64 f1, .bool g2, .slice A2 m2 c2, .int .i64 f2] 48))) := HT.out.below bI
  replace HLa : Hid (Lim (w16.alloc (.cells #[.bool g1, .slice A1 m1 c1, .int .i64 f1, .bool g2, .slice A2 m2 c2, .int .i64 f2] 48)) Ala mla cla la) := HLa.out.below bI
  replace HHa : Hid (Lim (w16.alloc (.cells #[.bool g1, .slice A1 m1 c1, .int .i64 f1, .bool g2, .slice A2 m2 c2, .int .i64 f2] 48)) Aha mha cha ha) := HHa.out.below bI
  replace HZ : Hid (Lim (w16.alloc (.cells #[.bool g1, .slice A1 m1 c1, .int .i64 f1, .bool g2, .slice A2 m2 c2, .int .i64 f2] 48)) A1 m1 c1 zs) := HZ.out.below bI
  replace HU : Hid (Lim (w16.alloc (.cells #[.bool g1, .slice A1 m1 c1, .int .i64 f1, .bool g2, .slice A2 m2 c2, .int .i64 f2] 48)) A2 m2 c2 us) := HU.out.below bI
  replace HS := Lib.hid (HS.out.trans (bI.mono HS.out.size))
  have HI : Hid (Ib (w16.alloc (.cells #[.bool g1, .slice A1 m1 c1, .int .i64 f1, .bool g2, .slice A2 m2 c2, .int .i64 f2] 48)) w16.heap.size g1 A1 m1 c1 f1 g2 A2 m2 c2 f2) := hI
  clear hI bI
  have H20 := Lib.hid (to_any Ala mla cla la (w16.alloc (.cells #[.bool g1, .slice A1 m1 c1, .int .i64 f1, .bool g2, .slice A2 m2 c2, .int .i64 f2] 48)) HLa.out (by omega))
  clear HLa
  go_wp2_with fail
  refine H20.out.mono ?_
  rintro e w17 ⟨A17, m17, c17, d17, rfl, hm17, hl17, hb17, hv17, hB⟩
  replace HT : Hid (Tab w17) := HT.out.below hB
  replace HHa : Hid (Lim w17 Aha mha cha ha) := HHa.out.below hB
  replace HZ : Hid (Lim w17 A1 m1 c1 zs) := HZ.out.below hB
  replace HU : Hid (Lim w17 A2 m2 c2 us) := HU.out.below hB
  replace HI : Hid (Ib w17 w16.heap.size g1 A1 m1 c1 f1 g2 A2 m2 c2 f2) := HI.out.below hB
  replace HS := Lib.hid (HS.out.trans (hB.mono HS.out.size))
  have Hda : Hid (Dig w17 A17 m17 c17 d17 ∧ D.Bare d17 ∧ D.val d17 = val la) := ⟨hl17, hb17, hv17⟩
  clear hl17 hb17 hv17 hB H20
  have H20 := Lib.hid (to_any Aha mha cha ha w17 HHa.out (by omega))
  clear HHa
  go_wp2_with fail
  refine H20.out.mono ?_
  rintro e w18 ⟨A18, m18, c18, d18, rfl, hm18, hl18, hb18, hv18, hB⟩
  replace HT : Hid (Tab w18) := HT.out.below hB
  replace HZ : Hid (Lim w18 A1 m1 c1 zs) := HZ.out.below hB
  replace HU : Hid (Lim w18 A2 m2 c2 us) := HU.out.below hB
  replace HI : Hid (Ib w18 w16.heap.size g1 A1 m1 c1 f1 g2 A2 m2 c2 f2) := HI.out.below hB
  replace Hda : Hid (Dig w18 A17 m17 c17 d17 ∧ D.Bare d17 ∧ D.val d17 = val la) := ⟨Hda.out.1.below hB, Hda.out.2⟩
  replace HS := Lib.hid (HS.out.trans (hB.mono HS.out.size))
  have Hdb : Hid (Dig w18 A18 m18 c18 d18 ∧ D.Bare d18 ∧ D.val d18 = val ha) := ⟨hl18, hb18, hv18⟩
  clear hl18 hb18 hv18 hB H20
  have hsh := at_short H3.out.1 H3.out.2 HQa.out.1
  have hwd := HQa.out.2.2
  have htwo := two_up (show 8 ≤ i from hi8)
  have hsh2 : val ha ≤ 3 * 2 ^ i := by omega
  have hna : m17 ≤ 197 := dlen_le Hda.out.1 Hda.out.2.1 Hda.out.2.2 (k := i + 2) (by rw [Nat.pow_add]; omega) (by omega)
  have hnb : m18 ≤ 197 := dlen_le Hdb.out.1 Hdb.out.2.1 Hdb.out.2.2 (k := i + 2) (by rw [Nat.pow_add]; omega) (by omega)
  clear hsh hsh2 hwd htwo
  have hBB := laid_two w18 51 true A18 m18 c18 (-(i : Int)) A17 m17 c17
  have hB9 := hBB.1
  have HN1 : Hid (Bd ((w18.alloc (.cells #[.bool true, .slice A18 m18 c18, .int .i64 (-(i : Int))] 51)).alloc (.cells #[.bool true, .slice A17 m17 c17, .int .i64 (-(i : Int))] 51)) w18.heap.size 51 true A18 m18 c18 (-(i : Int))) := hBB.2.1
  have HN2 : Hid (Bd ((w18.alloc (.cells #[.bool true, .slice A18 m18 c18, .int .i64 (-(i : Int))] 51)).alloc (.cells #[.bool true, .slice A17 m17 c17, .int .i64 (-(i : Int))] 51)) (w18.heap.size + 1) 51 true A17 m17 c17 (-(i : Int))) := hBB.2.2
  replace HT : Hid (Tab ((w18.alloc (.cells #[.bool true, .slice A18 m18 c18, .int .i64 (-(i : Int))] 51)).alloc (.cells #[.bool true, .slice A17 m17 c17, .int .i64 (-(i : Int))] 51))) := HT.out.below hB9
  replace HZ : Hid (Lim ((w18.alloc (.cells #[.bool true, .slice A18 m18 c18, .int .i64 (-(i : Int))] 51)).alloc (.cells #[.bool true, .slice A17 m17 c17, .int .i64 (-(i : Int))] 51)) A1 m1 c1 zs) := HZ.out.below hB9
  replace HU : Hid (Lim ((w18.alloc (.cells #[.bool true, .slice A18 m18 c18, .int .i64 (-(i : Int))] 51)).alloc (.cells #[.bool true, .slice A17 m17 c17, .int .i64 (-(i : Int))] 51)) A2 m2 c2 us) := HU.out.below hB9
  replace HI : Hid (Ib ((w18.alloc (.cells #[.bool true, .slice A18 m18 c18, .int .i64 (-(i : Int))] 51)).alloc (.cells #[.bool true, .slice A17 m17 c17, .int .i64 (-(i : Int))] 51)) w16.heap.size g1 A1 m1 c1 f1 g2 A2 m2 c2 f2) := HI.out.below hB9
  replace Hda : Hid (Dig ((w18.alloc (.cells #[.bool true, .slice A18 m18 c18, .int .i64 (-(i : Int))] 51)).alloc (.cells #[.bool true, .slice A17 m17 c17, .int .i64 (-(i : Int))] 51)) A17 m17 c17 d17 ∧ D.Bare d17 ∧ D.val d17 = val la) := ⟨Hda.out.1.below hB9, Hda.out.2⟩
  replace Hdb : Hid (Dig ((w18.alloc (.cells #[.bool true, .slice A18 m18 c18, .int .i64 (-(i : Int))] 51)).alloc (.cells #[.bool true, .slice A17 m17 c17, .int .i64 (-(i : Int))] 51)) A18 m18 c18 d18 ∧ D.Bare d18 ∧ D.val d18 = val ha) := ⟨Hdb.out.1.below hB9, Hdb.out.2⟩
  replace HS := Lib.hid (HS.out.trans (hB9.mono HS.out.size))
  clear hBB hB9
  have H21 := Lib.hid (rto_every ⟨g1, val zs, f1⟩ true _ (-(i : Int)) A18 m18 c18 d18 ((w18.alloc (.cells #[.bool true, .slice A18 m18 c18, .int .i64 (-(i : Int))] 51)).alloc (.cells #[.bool true, .slice A17 m17 c17, .int .i64 (-(i : Int))] 51)) Hdb.out.1 Hdb.out.2.1 Hdb.out.2.2 hnb HD1.out)
  have n0e := HN1.out.c0
  have n1e := HN1.out.c1
  have n2e := HN1.out.c2
  go_wp2_with fail
  refine H21.out.mono ?_
  rintro e w19 ⟨Ae, me, ce, es, rfl, hme, hle, hbe, hve, hB⟩
  clear n0e n1e n2e
  replace HT : Hid (Tab w19) := HT.out.below hB
  replace HZ : Hid (Lim w19 A1 m1 c1 zs) := HZ.out.below hB
  replace HU : Hid (Lim w19 A2 m2 c2 us) := HU.out.below hB
  replace HI : Hid (Ib w19 w16.heap.size g1 A1 m1 c1 f1 g2 A2 m2 c2 f2) := HI.out.below hB
  replace Hda : Hid (Dig w19 A17 m17 c17 d17 ∧ D.Bare d17 ∧ D.val d17 = val la) := ⟨Hda.out.1.below hB, Hda.out.2⟩
  replace Hdb : Hid (Dig w19 A18 m18 c18 d18 ∧ D.Bare d18 ∧ D.val d18 = val ha) := ⟨Hdb.out.1.below hB, Hdb.out.2⟩
  replace HN1 : Hid (Bd w19 w18.heap.size 51 true A18 m18 c18 (-(i : Int))) := HN1.out.below hB
  replace HN2 : Hid (Bd w19 (w18.heap.size + 1) 51 true A17 m17 c17 (-(i : Int))) := HN2.out.below hB
  replace HS := Lib.hid (HS.out.trans (hB.mono HS.out.size))
  have HLe : Hid (Lim w19 Ae me ce es) := hle
  have heqe : es = zs := bare_eq hle.words HZ.out.words hbe HBz.out.1 hve
  have hmee : me = m1 := by rw [← hle.len, heqe, HZ.out.len]
  rw [heqe, hmee] at HLe
  rw [hmee]
  have hDe := Bd.new w19 52 g1 Ae m1 ce f1
  have bDe := below1 w19 (.cells #[.bool g1, .slice Ae m1 ce, .int .i64 f1] 52)
  replace HT : Hid (Tab (w19.alloc (.cells #[.bool g1, .slice Ae m1 ce, .int .i64 f1] 52))) := HT.out.below bDe
  replace HZ : Hid (Lim (w19.alloc (.cells #[.bool g1, .slice Ae m1 ce, .int .i64 f1] 52)) A1 m1 c1 zs) := HZ.out.below bDe
  replace HU : Hid (Lim (w19.alloc (.cells #[.bool g1, .slice Ae m1 ce, .int .i64 f1] 52)) A2 m2 c2 us) := HU.out.below bDe
  replace HI : Hid (Ib (w19.alloc (.cells #[.bool g1, .slice Ae m1 ce, .int .i64 f1] 52)) w16.heap.size g1 A1 m1 c1 f1 g2 A2 m2 c2 f2) := HI.out.below bDe
  replace Hda : Hid (Dig (w19.alloc (.cells #[.bool g1, .slice Ae m1 ce, .int .i64 f1] 52)) A17 m17 c17 d17 ∧ D.Bare d17 ∧ D.val d17 = val la) := ⟨Hda.out.1.below bDe, Hda.out.2⟩
  replace Hdb : Hid (Dig (w19.alloc (.cells #[.bool g1, .slice Ae m1 ce, .int .i64 f1] 52)) A18 m18 c18 d18 ∧ D.Bare d18 ∧ D.val d18 = val ha) := ⟨Hdb.out.1.below bDe, Hdb.out.2⟩
  replace HN1 : Hid (Bd (w19.alloc (.cells #[.bool g1, .slice Ae m1 ce, .int .i64 f1] 52)) w18.heap.size 51 true A18 m18 c18 (-(i : Int))) := HN1.out.below bDe
  replace HN2 : Hid (Bd (w19.alloc (.cells #[.bool g1, .slice Ae m1 ce, .int .i64 f1] 52)) (w18.heap.size + 1) 51 true A17 m17 c17 (-(i : Int))) := HN2.out.below bDe
  replace HLe : Hid (Lim (w19.alloc (.cells #[.bool g1, .slice Ae m1 ce, .int .i64 f1] 52)) Ae m1 ce zs) := HLe.out.below bDe
  replace HS := Lib.hid (HS.out.trans (bDe.mono HS.out.size))
  have HBe : Hid (Bd (w19.alloc (.cells #[.bool g1, .slice Ae m1 ce, .int .i64 f1] 52)) w19.heap.size 52 g1 Ae m1 ce f1) := hDe
  clear hDe bDe hle hbe hve hB H21 hme heqe hmee
  clear HN1
  clear Hdb
  have H21 := Lib.hid (rto_every ⟨g2, val us, f2⟩ true _ (-(i : Int)) A17 m17 c17 d17 (w19.alloc (.cells #[.bool g1, .slice Ae m1 ce, .int .i64 f1] 52)) Hda.out.1 Hda.out.2.1 Hda.out.2.2 hna HD2.out)
  have n0o := HN2.out.c0
  have n1o := HN2.out.c1
  have n2o := HN2.out.c2
  go_wp2_with fail
  refine H21.out.mono ?_
  rintro e w20 ⟨Ao, mo, co, os, rfl, hmo, hlo, hbo, hvo, hB⟩
  clear n0o n1o n2o
  replace HT : Hid (Tab w20) := HT.out.below hB
  replace HZ : Hid (Lim w20 A1 m1 c1 zs) := HZ.out.below hB
  replace HU : Hid (Lim w20 A2 m2 c2 us) := HU.out.below hB
  replace HI : Hid (Ib w20 w16.heap.size g1 A1 m1 c1 f1 g2 A2 m2 c2 f2) := HI.out.below hB
  replace Hda : Hid (Dig w20 A17 m17 c17 d17 ∧ D.Bare d17 ∧ D.val d17 = val la) := ⟨Hda.out.1.below hB, Hda.out.2⟩
  replace HN2 : Hid (Bd w20 (w18.heap.size + 1) 51 true A17 m17 c17 (-(i : Int))) := HN2.out.below hB
  replace HLe : Hid (Lim w20 Ae m1 ce zs) := HLe.out.below hB
  replace HBe : Hid (Bd w20 w19.heap.size 52 g1 Ae m1 ce f1) := HBe.out.below hB
  replace HS := Lib.hid (HS.out.trans (hB.mono HS.out.size))
  have HLo : Hid (Lim w20 Ao mo co os) := hlo
  have heqo : os = us := bare_eq hlo.words HU.out.words hbo HBz.out.2 hvo
  have hmeo : mo = m2 := by rw [← hlo.len, heqo, HU.out.len]
  rw [heqo, hmeo] at HLo
  rw [hmeo]
  have hDo := Bd.new w20 52 g2 Ao m2 co f2
  have bDo := below1 w20 (.cells #[.bool g2, .slice Ao m2 co, .int .i64 f2] 52)
  replace HT : Hid (Tab (w20.alloc (.cells #[.bool g2, .slice Ao m2 co, .int .i64 f2] 52))) := HT.out.below bDo
  replace HZ : Hid (Lim (w20.alloc (.cells #[.bool g2, .slice Ao m2 co, .int .i64 f2] 52)) A1 m1 c1 zs) := HZ.out.below bDo
  replace HU : Hid (Lim (w20.alloc (.cells #[.bool g2, .slice Ao m2 co, .int .i64 f2] 52)) A2 m2 c2 us) := HU.out.below bDo
  replace HI : Hid (Ib (w20.alloc (.cells #[.bool g2, .slice Ao m2 co, .int .i64 f2] 52)) w16.heap.size g1 A1 m1 c1 f1 g2 A2 m2 c2 f2) := HI.out.below bDo
  replace Hda : Hid (Dig (w20.alloc (.cells #[.bool g2, .slice Ao m2 co, .int .i64 f2] 52)) A17 m17 c17 d17 ∧ D.Bare d17 ∧ D.val d17 = val la) := ⟨Hda.out.1.below bDo, Hda.out.2⟩
  replace HN2 : Hid (Bd (w20.alloc (.cells #[.bool g2, .slice Ao m2 co, .int .i64 f2] 52)) (w18.heap.size + 1) 51 true A17 m17 c17 (-(i : Int))) := HN2.out.below bDo
  replace HLe : Hid (Lim (w20.alloc (.cells #[.bool g2, .slice Ao m2 co, .int .i64 f2] 52)) Ae m1 ce zs) := HLe.out.below bDo
  replace HBe : Hid (Bd (w20.alloc (.cells #[.bool g2, .slice Ao m2 co, .int .i64 f2] 52)) w19.heap.size 52 g1 Ae m1 ce f1) := HBe.out.below bDo
  replace HLo : Hid (Lim (w20.alloc (.cells #[.bool g2, .slice Ao m2 co, .int .i64 f2] 52)) Ao m2 co us) := HLo.out.below bDo
  replace HS := Lib.hid (HS.out.trans (bDo.mono HS.out.size))
  have HBo : Hid (Bd (w20.alloc (.cells #[.bool g2, .slice Ao m2 co, .int .i64 f2] 52)) w20.heap.size 52 g2 Ao m2 co f2) := hDo
  clear hDo bDo hlo hbo hvo hB H21 hmo heqo hmeo
  clear HN2
  clear Hda
  clear HQa HD1 HD2 hna hnb HBz H3 Hk
  have H22 := Lib.hid (fsame_yes g1 A1 m1 c1 zs f1 Ae ce (w20.alloc (.cells #[.bool g2, .slice Ao m2 co, .int .i64 f2] 52)) HZ.out HLe.out (by omega))
  have i0 := HI.out.x0
  have i1 := HI.out.x1
  have i2 := HI.out.x2
  have i3 := HI.out.x3
  have i4 := HI.out.x4
  have i5 := HI.out.x5
  have HBe0 := HBe.out.c0
  have HBe1 := HBe.out.c1
  have HBe2 := HBe.out.c2
  go_wp2_with fail
  refine H22.out.mono ?_
  rintro e w21 ⟨rfl, hB⟩
  clear i0 i1 i2 i3 i4 i5 HBe0 HBe1 HBe2
  replace HT : Hid (Tab w21) := HT.out.below hB
  replace HZ : Hid (Lim w21 A1 m1 c1 zs) := HZ.out.below hB
  replace HU : Hid (Lim w21 A2 m2 c2 us) := HU.out.below hB
  replace HI : Hid (Ib w21 w16.heap.size g1 A1 m1 c1 f1 g2 A2 m2 c2 f2) := HI.out.below hB
  replace HLe : Hid (Lim w21 Ae m1 ce zs) := HLe.out.below hB
  replace HBe : Hid (Bd w21 w19.heap.size 52 g1 Ae m1 ce f1) := HBe.out.below hB
  replace HLo : Hid (Lim w21 Ao m2 co us) := HLo.out.below hB
  replace HBo : Hid (Bd w21 w20.heap.size 52 g2 Ao m2 co f2) := HBo.out.below hB
  replace HS := Lib.hid (HS.out.trans (hB.mono HS.out.size))
  clear hB H22
  clear HBe HLe
  have H23 := Lib.hid (fsame_yes g2 A2 m2 c2 us f2 Ao co w21 HU.out HLo.out (by omega))
  have i0 := HI.out.x0
  have i1 := HI.out.x1
  have i2 := HI.out.x2
  have i3 := HI.out.x3
  have i4 := HI.out.x4
  have i5 := HI.out.x5
  have HBo0 := HBo.out.c0
  have HBo1 := HBo.out.c1
  have HBo2 := HBo.out.c2
  go_wp2_with fail
  refine H23.out.mono ?_
  rintro e w22 ⟨rfl, hB⟩
  clear i0 i1 i2 i3 i4 i5 HBo0 HBo1 HBo2
  replace HT : Hid (Tab w22) := HT.out.below hB
  replace HZ : Hid (Lim w22 A1 m1 c1 zs) := HZ.out.below hB
  replace HU : Hid (Lim w22 A2 m2 c2 us) := HU.out.below hB
  replace HI : Hid (Ib w22 w16.heap.size g1 A1 m1 c1 f1 g2 A2 m2 c2 f2) := HI.out.below hB
  replace HLo : Hid (Lim w22 Ao m2 co us) := HLo.out.below hB
  replace HBo : Hid (Bd w22 w20.heap.size 52 g2 Ao m2 co f2) := HBo.out.below hB
  replace HS := Lib.hid (HS.out.trans (hB.mono HS.out.size))
  clear hB H23
  clear HBo HLo
  obtain ⟨cd, hcd⟩ : ∃ cv, cmpI (dw g1 (val zs) f1) (dw g2 (val us) f2) = cv := ⟨_, rfl⟩
  have bcd : decide (cd ≤ 0) = true := decide_eq_true (by rw [← hcd]; exact HOr.out)
  have H24 := Lib.hid (dcmp_l cd g1 A1 m1 c1 zs f1 g2 A2 m2 c2 us f2 w22 HZ.out HU.out (by omega) (by omega) HT.out hcd)
  clear hcd HOr
  have i0 := HI.out.x0
  have i1 := HI.out.x1
  have i2 := HI.out.x2
  have i3 := HI.out.x3
  have i4 := HI.out.x4
  have i5 := HI.out.x5
  go_wp2_with fail
  refine H24.out.mono ?_
  rintro e w23 ⟨rfl, hB⟩
  clear i0 i1 i2 i3 i4 i5
  replace HT : Hid (Tab w23) := HT.out.below hB
  replace HZ : Hid (Lim w23 A1 m1 c1 zs) := HZ.out.below hB
  replace HU : Hid (Lim w23 A2 m2 c2 us) := HU.out.below hB
  replace HI : Hid (Ib w23 w16.heap.size g1 A1 m1 c1 f1 g2 A2 m2 c2 f2) := HI.out.below hB
  replace HS := Lib.hid (HS.out.trans (hB.mono HS.out.size))
  clear hB H24
  have Hfin := Lib.hid HS.out
  clear HS HT HZ HU HI
  go_wp2
  go_ret
  exact ⟨rfl, Hfin.out⟩

theorem walk_seriesScales' (HAt : AtanhMeets) (HLn : Ln2Meets) (HWi : WithinMeets) (x y s t : Int) (g : Bool) (w : World) (hT : Tab w) (hx1 : 0 ≤ x) (hx2 : x ≤ 4294967295) (hy1 : 0 ≤ y) (hy2 : y ≤ 4294967295) (hs1 : 0 ≤ s) (hs2 : s ≤ 255) (ht1 : 0 ≤ t) (ht2 : t ≤ 255) :
    Calls Tryd.prog 5 #[.int .u32 x, .int .u32 y, .int .u8 s, .int .u8 t, .bool g] w fun e w' => e = .returned (.bool true) ∧ Below w.heap.size w w' := by
  obtain ⟨X, rfl⟩ := Int.eq_ofNat_of_zero_le hx1
  obtain ⟨Y, rfl⟩ := Int.eq_ofNat_of_zero_le hy1
  obtain ⟨S, rfl⟩ := Int.eq_ofNat_of_zero_le hs1
  obtain ⟨T, rfl⟩ := Int.eq_ofNat_of_zero_le ht1
  by_cases h : Y = 0 ∨ Y / 3 < X
  · exact sscales_skip HLn X Y S T g w hT (by omega) (by omega) h
  · cases g
    · exact sscales_false HAt HLn HWi X Y S T w hT (by omega) (by omega) (by omega) (by omega) (by omega) (by omega)
    · exact sscales_true HAt HLn HWi X Y S T w hT (by omega) (by omega) (by omega) (by omega) (by omega) (by omega)
end Go.Proofs.YtngldpmnbdgkiaaDoor
