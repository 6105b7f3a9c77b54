/- The walks of planimeterlaw12.alive, wide and holds. -/
import Derived.Test.YtngldpmnbdgkiaaDoorSrLaw
namespace Go.Proofs.YtngldpmnbdgkiaaDoor
open Go.RowKit

theorem cmpZ_down {x y : Nat} (h : x ≤ y) : cmpZ x y ≤ 0 := by
  rcases Nat.lt_or_eq_of_le h with h | h
  · rw [cmpZ_lt h]; decide
  · rw [cmpZ_eq h]; decide
theorem cmpZ_up {x y : Nat} (h : y ≤ x) : 0 ≤ cmpZ x y := by
  rcases Nat.lt_or_eq_of_le h with h | h
  · rw [cmpZ_gt h]; decide
  · rw [cmpZ_eq h.symm]; decide

theorem digs_zero {w : World} {A : Option Addr} {n c : Nat} {us : List Nat} (hA : Dig w A n c us) (hb : D.Bare us) (h : D.val us = 0) : n = 0 := by
  have h2 := D.len_of_lt (M := 0) hb (by rw [h]; decide)
  rw [hA.len] at h2
  omega
theorem digs_pos {w : World} {A : Option Addr} {n c : Nat} {us : List Nat} (hA : Dig w A n c us) (h : D.val us ≠ 0) : n ≠ 0 := by
  intro h9
  have hl := hA.len
  rw [h9] at hl
  exact h (by rw [List.eq_nil_of_length_eq_zero hl]; rfl)

set_option maxHeartbeats 1000000 in
theorem salive_any (HLn : Ln2Meets) (w : World) (hT : Tab w) : Calls Tryd.prog 7 #[] w fun e w' => e = .returned (.bool true) ∧ Below w.heap.size w w' := by
  have HL := Lib.hid HLn
  have HT := Lib.hid hT
  have H1 := Lib.hid (HLn 8 w hT (by decide) (by decide))
  clear HLn hT
  go_enter Tryd.func7, Tryd.ntmps7
  go_wp2_with fail
  refine H1.out.mono ?_
  rintro e w1 ⟨A1, m1, c1, zs, A2, m2, c2, us, r, rfl, hm1, hm2, hl1, hl2, hB1, hq⟩
  obtain ⟨rfl, hb⟩ : r = 0 ∧ Ln2B 8 (val zs) (val us) := by
    rcases hq with ⟨_, h1, h2, _⟩ | ⟨h, _⟩
    · exact ⟨h1, h2⟩
    · exact absurd ⟨by decide, by decide⟩ h
  have HN := Lib.hid (ln2_near hb)
  replace HT := Lib.hid (HT.out.below hB1)
  have H2 := Lib.hid (HL.out 7 w1 HT.out (by decide) (by decide))
  have HX : Hid (Lim w1 A1 m1 c1 zs ∧ Lim w1 A2 m2 c2 us ∧ Below w.heap.size w w1) := ⟨hl1, hl2, hB1⟩
  clear hl1 hl2 hB1 hq hb H1 HL
  go_wp2_with fail
  refine H2.out.mono ?_
  rintro e w2 ⟨A3, m3, c3, ts, A4, m4, c4, vs, r2, rfl, hm3, hm4, hl3, hl4, hB2, hq⟩
  obtain rfl : r2 = 1 := by
    rcases hq with ⟨h, _⟩ | ⟨_, h, _⟩
    · exact absurd h.1 (by decide)
    · exact h
  have a3 := below1 w2 (.cells #[.int .u64 177] 38)
  have n3 := lim_new1 w2 38 177 177 rfl (by decide)
  obtain ⟨cv, hcv⟩ : ∃ cv, cmpZ (val zs) 177 = cv := ⟨_, rfl⟩
  have b1 : decide (cv ≤ 0) = true := decide_eq_true (by rw [← hcv]; exact cmpZ_down HN.out.1)
  have H3 := Lib.hid (cmp_b cv A1 m1 c1 zs _ 1 1 [177] _ ((HX.out.1.below hB2).below a3) n3 (by omega) (by decide) (by show _ = _; rw [← hcv]; rfl))
  have hs := HX.out.2.2.trans (hB2.mono HX.out.2.2.size)
  have HS := Lib.hid (hs.trans (a3.mono hs.size))
  have HU := Lib.hid ((HX.out.2.1.below hB2).below a3)
  clear hl3 hl4 hB2 hq a3 n3 hcv hs H2 HX
  go_wp2_with fail
  refine H3.out.mono ?_
  rintro e w3 ⟨rfl, hB3⟩
  have a4 := below1 w3 (.cells #[.int .u64 178] 38)
  have n4 := lim_new1 w3 38 178 178 rfl (by decide)
  obtain ⟨cu, hcu⟩ : ∃ cu, cmpZ (val us) 178 = cu := ⟨_, rfl⟩
  have b2 : decide (0 ≤ cu) = true := decide_eq_true (by rw [← hcu]; exact cmpZ_up HN.out.2)
  have H4 := Lib.hid (cmp_b cu A2 m2 c2 us _ 1 1 [178] _ ((HU.out.below hB3).below a4) n4 (by omega) (by decide) (by show _ = _; rw [← hcu]; rfl))
  have hs := HS.out.trans (hB3.mono HS.out.size)
  replace HS := Lib.hid (hs.trans (a4.mono hs.size))
  clear hB3 a4 n4 hcu hs H3 HU HN
  go_wp2_with fail
  refine H4.out.mono ?_
  rintro e w4 ⟨rfl, hB4⟩
  have Hfin := Lib.hid (HS.out.trans (hB4.mono HS.out.size))
  clear H4 hB4 HS
  go_wp2
  go_ret
  exact ⟨rfl, Hfin.out⟩

set_option maxHeartbeats 1000000 in
/-- The second one is at most so much above the first one. -/
theorem wide_yes (A : Option Addr) (n c : Nat) (xs : List Nat) (B : Option Addr) (m d : Nat) (ys : List Nat) (t : Nat) (w : World) (hA : Lim w A n c xs) (hB : Lim w B m d ys) (hn : n ≤ 1000000) (hm : m ≤ 1000000) (ht : t ≤ 1000000) (h1 : val xs ≤ val ys) (h2 : val ys - val xs ≤ t) :
    Calls Tryd.prog 14 #[.slice A n c, .slice B m d, .int .i64 (t : Int)] w fun e w' => e = .returned (.bool true) ∧ Below w.heap.size w w' := by
  obtain ⟨D, hD⟩ : ∃ D, val ys - val xs = D := ⟨_, rfl⟩
  have H1 := sub_any B m d ys A n c xs w hB hA (by omega) (by omega) h1
  rw [hD] at H1 h2
  replace H1 := Lib.hid H1
  have b1 : decide (D ≤ t) = true := decide_eq_true h2
  have b2 : decide ((D : Int) ≤ (t : Int)) = true := decide_eq_true (by omega)
  have hD9 : D < 18446744073709551616 := by omega
  clear hA hB h1 h2 hD hn
  go_enter Tryd.func14, Tryd.ntmps14
  go_wp2_with fail
  refine H1.out.mono ?_
  rintro e w1 ⟨A1, m1, c1, zs, rfl, hm1, hl1, hb1, hv1, hB1⟩
  have H2 := small_yes A1 m1 c1 zs w1 hl1 (by omega) (by rw [hv1]; exact hD9)
  rw [hv1] at H2
  replace H2 := Lib.hid H2
  have HS := Lib.hid hB1
  clear hl1 hb1 hv1 hB1 H1
  go_wp2_with fail
  refine H2.out.mono ?_
  rintro e w' ⟨rfl, rfl⟩
  clear H2
  go_wp2
  go_ret
  exact ⟨rfl, HS.out⟩

set_option maxHeartbeats 1000000 in
/-- What the document reckons can be what is between. -/
theorem holds_yes (A : Option Addr) (n c : Nat) (xs : List Nat) (B : Option Addr) (m d : Nat) (ys : List Nat) (E : Option Addr) (k f : Nat) (ds : List Nat) (V : Nat) (w : World) (hA : Lim w A n c xs) (hB : Lim w B m d ys) (hE : Dig w E k f ds) (hb : D.Bare ds) (hv : D.val ds = V) (hn : n ≤ 250) (hm : m ≤ 250) (hk : k ≤ 1000)
    (h1 : val xs * 2 ^ 80 ≤ V + 1048576) (h2 : V ≤ val ys * 2 ^ 80) :
    Calls Tryd.prog 15 #[.slice A n c, .slice B m d, .slice E k f] w fun e w' => e = .returned (.bool true) ∧ Below w.heap.size w w' := by
  obtain ⟨P, hP⟩ : ∃ P, 2 ^ 80 = P := ⟨_, rfl⟩
  rw [hP] at h1 h2
  have HP := Lib.hid hP
  have H1 := Lib.hid (to_any A n c xs w hA (by omega))
  have HB := Lib.hid hB
  have HE : Hid (Dig w E k f ds ∧ D.Bare ds ∧ D.val ds = V) := ⟨hE, hb, hv⟩
  have G1 := Lib.hid h1
  have G2 := Lib.hid h2
  clear hA hB hE hb hv h1 h2 hP
  go_enter Tryd.func15, Tryd.ntmps15
  go_wp2_with fail
  refine H1.out.mono ?_
  rintro e w1 ⟨A1, m1, c1, es, rfl, hm1, hl1, hb1, hv1, hB1⟩
  have H2 := rshl_any A1 m1 c1 es 80 w1 hl1 hb1 (by omega) (by decide)
  rw [hv1, HP.out] at H2
  replace H2 := Lib.hid H2
  have HS := Lib.hid hB1
  clear hl1 hb1 hv1 hB1 H1
  go_wp2_with fail
  refine H2.out.mono ?_
  rintro e w2 ⟨A2, m2, c2, ws, rfl, hm2, hl2, hb2, hv2, hB2⟩
  replace HS := Lib.hid (HS.out.trans (hB2.mono HS.out.size))
  have HAs : Hid (Dig w2 A2 m2 c2 ws ∧ D.Bare ws ∧ D.val ws = val xs * P) := ⟨hl2, hb2, hv2⟩
  have H3 := Lib.hid (to_any B m d ys w2 (HB.out.below HS.out) (by omega))
  clear hl2 hb2 hv2 hB2 H2 HB
  go_wp2_with fail
  refine H3.out.mono ?_
  rintro e w3 ⟨A3, m3, c3, es, rfl, hm3, hl3, hb3, hv3, hB3⟩
  have H4 := rshl_any A3 m3 c3 es 80 w3 hl3 hb3 (by omega) (by decide)
  rw [hv3, HP.out] at H4
  replace H4 := Lib.hid H4
  replace HS := Lib.hid (HS.out.trans (hB3.mono HS.out.size))
  replace HAs : Hid (Dig w3 A2 m2 c2 ws ∧ D.Bare ws ∧ D.val ws = val xs * P) := ⟨HAs.out.1.below hB3, HAs.out.2⟩
  clear hl3 hb3 hv3 hB3 H3
  go_wp2_with fail
  refine H4.out.mono ?_
  rintro e w4 ⟨A4, m4, c4, bs, rfl, hm4, hl4, hb4, hv4, hB4⟩
  replace HS := Lib.hid (HS.out.trans (hB4.mono HS.out.size))
  replace HAs : Hid (Dig w4 A2 m2 c2 ws ∧ D.Bare ws ∧ D.val ws = val xs * P) := ⟨HAs.out.1.below hB4, HAs.out.2⟩
  have HBs : Hid (Dig w4 A4 m4 c4 bs ∧ D.Bare bs ∧ D.val bs = val ys * P) := ⟨hl4, hb4, hv4⟩
  have H5 := Lib.hid (rwide_l w4)
  clear hl4 hb4 hv4 hB4 H4
  go_wp2_with fail
  refine H5.out.mono ?_
  rintro e w5 ⟨A5, m5, c5, es, rfl, hm5, hl5, hb5, hv5, hB5⟩
  have hs5 := HS.out.trans (hB5.mono HS.out.size)
  have H6 := radd_any E k f ds A5 m5 c5 es w5 (HE.out.1.below hs5) hl5 HE.out.2.1 hb5 (by omega) (by omega)
  rw [HE.out.2.2, hv5] at H6
  replace H6 := Lib.hid H6
  replace HS := Lib.hid hs5
  replace HAs : Hid (Dig w5 A2 m2 c2 ws ∧ D.Bare ws ∧ D.val ws = val xs * P) := ⟨HAs.out.1.below hB5, HAs.out.2⟩
  replace HBs : Hid (Dig w5 A4 m4 c4 bs ∧ D.Bare bs ∧ D.val bs = val ys * P) := ⟨HBs.out.1.below hB5, HBs.out.2⟩
  clear hl5 hb5 hv5 hB5 H5 hs5
  go_wp2_with fail
  refine H6.out.mono ?_
  rintro e w6 ⟨A6, m6, c6, es, rfl, hm6, hl6, hb6, hv6, hB6⟩
  obtain ⟨cv, hcv⟩ : ∃ cv, cmpZ (val xs * P) (V + 1048576) = cv := ⟨_, rfl⟩
  have b1 : decide (cv ≤ 0) = true := decide_eq_true (by rw [← hcv]; exact cmpZ_down G1.out)
  have H7 := Lib.hid (rcmp_v cv A2 m2 c2 ws A6 m6 c6 es w6 (HAs.out.1.below hB6) hl6 HAs.out.2.1 hb6 (by omega) (by omega) (by show _ = _; rw [HAs.out.2.2, hv6]; exact hcv))
  replace HS := Lib.hid (HS.out.trans (hB6.mono HS.out.size))
  replace HBs : Hid (Dig w6 A4 m4 c4 bs ∧ D.Bare bs ∧ D.val bs = val ys * P) := ⟨HBs.out.1.below hB6, HBs.out.2⟩
  clear hl6 hb6 hv6 hB6 H6 hcv HAs
  go_wp2_with fail
  refine H7.out.mono ?_
  rintro e w7 ⟨rfl, hB7⟩
  replace HS := Lib.hid (HS.out.trans (hB7.mono HS.out.size))
  obtain ⟨cu, hcu⟩ : ∃ cu, cmpZ V (val ys * P) = cu := ⟨_, rfl⟩
  have b2 : decide (cu ≤ 0) = true := decide_eq_true (by rw [← hcu]; exact cmpZ_down G2.out)
  have H8 := Lib.hid (rcmp_v cu E k f ds A4 m4 c4 bs w7 (HE.out.1.below HS.out) (HBs.out.1.below hB7) HE.out.2.1 HBs.out.2.1 (by omega) (by omega) (by show _ = _; rw [HE.out.2.2, HBs.out.2.2]; exact hcu))
  clear hB7 hcu H7
  go_wp2_with fail
  refine H8.out.mono ?_
  rintro e w8 ⟨rfl, hB8⟩
  have Hfin := Lib.hid (HS.out.trans (hB8.mono HS.out.size))
  clear hB8 H8 HS HBs HE G1 G2 HP
  go_wp2
  go_ret
  exact ⟨rfl, Hfin.out⟩
end Go.Proofs.YtngldpmnbdgkiaaDoor
