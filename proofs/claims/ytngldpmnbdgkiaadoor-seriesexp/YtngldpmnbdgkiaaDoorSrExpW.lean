/- The walk of the law SeriesExp (written by law_sexp.py). -/
import Derived.Test.YtngldpmnbdgkiaaDoorSrAlive
import Derived.Test.YtngldpmnbdgkiaaDoorSrHold
namespace Go.Proofs.YtngldpmnbdgkiaaDoor
open Go.RowKit

set_option maxHeartbeats 1000000 in
/-- What isn't looked at. -/
theorem sexp_skip (HLn : Ln2Meets) (A : Option Addr) (n c : Nat) (B : Option Addr) (m d : Nat) (s : Int) (w : World) (hT : Tab w) (h : 150 < n ∨ 150 < m) :
    Calls Tryd.prog 4 #[.slice A n c, .slice B m d, .int .i64 s] w fun e w' => e = .returned (.bool true) ∧ Below w.heap.size w w' := by
  have H1 := Lib.hid (salive_any HLn w hT)
  clear HLn hT
  by_cases q1 : 150 < n
  · have t1 : decide ((150 : Int) < (n : Int)) = true := decide_eq_true (by omega)
    have t1n : decide (150 < n) = true := decide_eq_true (by omega)
    clear h q1
    go_enter Tryd.func4, Tryd.ntmps4
    go_wp2_with fail
    refine H1.out.mono ?_
    rintro e w1 ⟨rfl, hB1⟩
    have Hfin := Lib.hid hB1
    clear hB1 H1
    go_wp2
    go_ret
    exact ⟨rfl, Hfin.out⟩
  · have t1 : decide ((150 : Int) < (n : Int)) = false := decide_eq_false (by omega)
    have t1n : decide (150 < n) = false := decide_eq_false (by omega)
    have t2 : decide ((150 : Int) < (m : Int)) = true := decide_eq_true (by omega)
    have t2n : decide (150 < m) = true := decide_eq_true (by omega)
    clear h q1
    go_enter Tryd.func4, Tryd.ntmps4
    go_wp2_with fail
    refine H1.out.mono ?_
    rintro e w1 ⟨rfl, hB1⟩
    have Hfin := Lib.hid hB1
    clear hB1 H1
    go_wp2
    go_ret
    exact ⟨rfl, Hfin.out⟩

set_option maxHeartbeats 2000000 in
set_option maxRecDepth 20000 in
theorem sexp_R (HEx : ExpMeets) (HLn : Ln2Meets) (A : Option Addr) (n c : Nat) (xs : List Nat) (B : Option Addr) (m d : Nat) (ys : List Nat) (s : Int) (w : World) (hT : Tab w) (hA : Lim w A n c xs) (hB : Lim w B m d ys) (hn : n ≤ 150) (hm : m ≤ 150) (hs1 : -9223372036854775808 ≤ s) (hs2 : s ≤ 9223372036854775807) (f1 : ¬ (8 ≤ s ∧ s ≤ 9000)) :
    Calls Tryd.prog 4 #[.slice A n c, .slice B m d, .int .i64 s] w fun e w' => e = .returned (.bool true) ∧ Below w.heap.size w w' := by
  have no : ¬ ExOk (val xs) (val ys) s := fun h => f1 h.1
  have H1 := Lib.hid (salive_any HLn w hT)
  have HA := Lib.hid hA
  have HB := Lib.hid hB
  have HT := Lib.hid hT
  have HM := Lib.hid HEx
  have HS := Lib.hid (Below.refl w.heap.size w)
  obtain ⟨X, hX⟩ : ∃ X, val xs = X := ⟨_, rfl⟩
  obtain ⟨Y, hY⟩ : ∃ Y, val ys = Y := ⟨_, rfl⟩
  have HX := Lib.hid hX
  have HY := Lib.hid hY
  have Hsb : Hid (-9223372036854775808 ≤ s ∧ s ≤ 9223372036854775807) := ⟨hs1, hs2⟩
  have t1 : decide ((150 : Int) < (n : Int)) = false := decide_eq_false (by omega)
  have t1n : decide (150 < n) = false := decide_eq_false (by omega)
  have t2 : decide ((150 : Int) < (m : Int)) = false := decide_eq_false (by omega)
  have t2n : decide (150 < m) = false := decide_eq_false (by omega)
  have HR := Lib.hid (right_l s false)
  have Hr : Hid (decide (8 ≤ s ∧ s ≤ 9000) = false) := decide_eq_false f1
  clear HLn HEx hT hA hB hs1 hs2 f1 hX hY
  go_enter Tryd.func4, Tryd.ntmps4
  go_wp2_with fail
  refine H1.out.mono ?_
  rintro e w1 ⟨rfl, hB⟩
  replace HA : Hid (Lim w1 A n c xs) := HA.out.below hB
  replace HB : Hid (Lim w1 B m d ys) := HB.out.below hB
  replace HT : Hid (Tab w1) := HT.out.below hB
  replace HS := Lib.hid (HS.out.trans (hB.mono HS.out.size))
  clear hB H1
  have H2 := Lib.hid (HM.out A n c xs B m d ys s w1 HA.out HB.out hn hm HT.out Hsb.out.1 Hsb.out.2)
  clear HM HT Hsb
  go_wp2_with fail
  refine H2.out.mono ?_
  rintro e w2 ⟨Ap, mp, cp, zs, Aq, mq, cq, us, r, rfl, hmp, hmq, hlp, hlq, hB0, hq⟩
  replace HA : Hid (Lim w2 A n c xs) := HA.out.below hB0
  replace HB : Hid (Lim w2 B m d ys) := HB.out.below hB0
  replace HS := Lib.hid (HS.out.trans (hB0.mono HS.out.size))
  obtain ⟨rfl, rfl, rfl⟩ : r = 1 ∧ mp = 0 ∧ mq = 0 := by
    rcases hq with ⟨h, _⟩ | ⟨_, h1, h2, h3⟩
    · exact absurd h no
    · exact ⟨h1, h2, h3⟩
  clear hq hlp hlq hB0 hmp hmq H2 no
  have H3 := to_any A n c xs w2 HA.out (by omega)
  rw [HX.out] at H3
  replace H3 := Lib.hid H3
  go_wp2_with fail
  refine H3.out.mono ?_
  rintro e w3 ⟨A3, m3, c3, d3, rfl, hm3, hl3, hb3, hv3, hB⟩
  replace HA : Hid (Lim w3 A n c xs) := HA.out.below hB
  replace HB : Hid (Lim w3 B m d ys) := HB.out.below hB
  replace HS := Lib.hid (HS.out.trans (hB.mono HS.out.size))
  have HU : Hid (Dig w3 A3 m3 c3 d3 ∧ D.Bare d3 ∧ D.val d3 = X) := ⟨hl3, hb3, hv3⟩
  clear hl3 hb3 hv3 hB H3
  have H4 := to_any B m d ys w3 HB.out (by omega)
  rw [HY.out] at H4
  replace H4 := Lib.hid H4
  go_wp2_with fail
  refine H4.out.mono ?_
  rintro e w4 ⟨A4, m4, c4, d4, rfl, hm4, hl4, hb4, hv4, hB⟩
  replace HA : Hid (Lim w4 A n c xs) := HA.out.below hB
  replace HB : Hid (Lim w4 B m d ys) := HB.out.below hB
  replace HU : Hid (Dig w4 A3 m3 c3 d3 ∧ D.Bare d3 ∧ D.val d3 = X) := ⟨HU.out.1.below hB, HU.out.2⟩
  replace HS := Lib.hid (HS.out.trans (hB.mono HS.out.size))
  have HV : Hid (Dig w4 A4 m4 c4 d4 ∧ D.Bare d4 ∧ D.val d4 = Y) := ⟨hl4, hb4, hv4⟩
  clear hl4 hb4 hv4 hB H4
  have H5 := Lib.hid (HR.out w4 Hr.out)
  go_wp2_with fail
  refine H5.out.mono ?_
  rintro e w' ⟨rfl, rfl⟩
  clear H5 HR Hr
  have Hfin := Lib.hid HS.out
  clear HS HA HB HU HV
  go_wp2
  go_ret
  exact ⟨rfl, Hfin.out⟩

set_option maxHeartbeats 2000000 in
set_option maxRecDepth 20000 in
theorem sexp_G (HEx : ExpMeets) (HLn : Ln2Meets) (A : Option Addr) (n c : Nat) (xs : List Nat) (B : Option Addr) (m d : Nat) (ys : List Nat) (s : Int) (w : World) (hT : Tab w) (hA : Lim w A n c xs) (hB : Lim w B m d ys) (hn : n ≤ 150) (hm : m ≤ 150) (hs1 : -9223372036854775808 ≤ s) (hs2 : s ≤ 9223372036854775807) (f1 : 8 ≤ s ∧ s ≤ 9000) (f2 : val ys < val xs) :
    Calls Tryd.prog 4 #[.slice A n c, .slice B m d, .int .i64 s] w fun e w' => e = .returned (.bool true) ∧ Below w.heap.size w w' := by
  have no : ¬ ExOk (val xs) (val ys) s := fun h => (by have := h.2.1; omega)
  have H1 := Lib.hid (salive_any HLn w hT)
  have HA := Lib.hid hA
  have HB := Lib.hid hB
  have HT := Lib.hid hT
  have HM := Lib.hid HEx
  have HS := Lib.hid (Below.refl w.heap.size w)
  obtain ⟨X, hX⟩ : ∃ X, val xs = X := ⟨_, rfl⟩
  obtain ⟨Y, hY⟩ : ∃ Y, val ys = Y := ⟨_, rfl⟩
  have HX := Lib.hid hX
  have HY := Lib.hid hY
  have Hsb : Hid (-9223372036854775808 ≤ s ∧ s ≤ 9223372036854775807) := ⟨hs1, hs2⟩
  have t1 : decide ((150 : Int) < (n : Int)) = false := decide_eq_false (by omega)
  have t1n : decide (150 < n) = false := decide_eq_false (by omega)
  have t2 : decide ((150 : Int) < (m : Int)) = false := decide_eq_false (by omega)
  have t2n : decide (150 < m) = false := decide_eq_false (by omega)
  have HR := Lib.hid (right_l s true)
  have Hr : Hid (decide (8 ≤ s ∧ s ≤ 9000) = true) := decide_eq_true f1
  obtain ⟨σ, rfl⟩ := Int.eq_ofNat_of_zero_le (show 0 ≤ s by have := f1.1; omega)
  have hσ : σ ≤ 9000 := by have := f1.2; omega
  have hσ8 : (8 : Int) ≤ (σ : Int) := f1.1
  rw [hX, hY] at f2
  have F2 := Lib.hid f2
  clear HLn HEx hT hA hB hs1 hs2 f1 f2 hX hY
  go_enter Tryd.func4, Tryd.ntmps4
  go_wp2_with fail
  refine H1.out.mono ?_
  rintro e w1 ⟨rfl, hB⟩
  replace HA : Hid (Lim w1 A n c xs) := HA.out.below hB
  replace HB : Hid (Lim w1 B m d ys) := HB.out.below hB
  replace HT : Hid (Tab w1) := HT.out.below hB
  replace HS := Lib.hid (HS.out.trans (hB.mono HS.out.size))
  clear hB H1
  have H2 := Lib.hid (HM.out A n c xs B m d ys (σ : Int) w1 HA.out HB.out hn hm HT.out Hsb.out.1 Hsb.out.2)
  clear HM HT Hsb
  go_wp2_with fail
  refine H2.out.mono ?_
  rintro e w2 ⟨Ap, mp, cp, zs, Aq, mq, cq, us, r, rfl, hmp, hmq, hlp, hlq, hB0, hq⟩
  replace HA : Hid (Lim w2 A n c xs) := HA.out.below hB0
  replace HB : Hid (Lim w2 B m d ys) := HB.out.below hB0
  replace HS := Lib.hid (HS.out.trans (hB0.mono HS.out.size))
  obtain ⟨rfl, rfl, rfl⟩ : r = 1 ∧ mp = 0 ∧ mq = 0 := by
    rcases hq with ⟨h, _⟩ | ⟨_, h1, h2, h3⟩
    · exact absurd h no
    · exact ⟨h1, h2, h3⟩
  clear hq hlp hlq hB0 hmp hmq H2 no
  have H3 := to_any A n c xs w2 HA.out (by omega)
  rw [HX.out] at H3
  replace H3 := Lib.hid H3
  go_wp2_with fail
  refine H3.out.mono ?_
  rintro e w3 ⟨A3, m3, c3, d3, rfl, hm3, hl3, hb3, hv3, hB⟩
  replace HA : Hid (Lim w3 A n c xs) := HA.out.below hB
  replace HB : Hid (Lim w3 B m d ys) := HB.out.below hB
  replace HS := Lib.hid (HS.out.trans (hB.mono HS.out.size))
  have HU : Hid (Dig w3 A3 m3 c3 d3 ∧ D.Bare d3 ∧ D.val d3 = X) := ⟨hl3, hb3, hv3⟩
  clear hl3 hb3 hv3 hB H3
  have H4 := to_any B m d ys w3 HB.out (by omega)
  rw [HY.out] at H4
  replace H4 := Lib.hid H4
  go_wp2_with fail
  refine H4.out.mono ?_
  rintro e w4 ⟨A4, m4, c4, d4, rfl, hm4, hl4, hb4, hv4, hB⟩
  replace HA : Hid (Lim w4 A n c xs) := HA.out.below hB
  replace HB : Hid (Lim w4 B m d ys) := HB.out.below hB
  replace HU : Hid (Dig w4 A3 m3 c3 d3 ∧ D.Bare d3 ∧ D.val d3 = X) := ⟨HU.out.1.below hB, HU.out.2⟩
  replace HS := Lib.hid (HS.out.trans (hB.mono HS.out.size))
  have HV : Hid (Dig w4 A4 m4 c4 d4 ∧ D.Bare d4 ∧ D.val d4 = Y) := ⟨hl4, hb4, hv4⟩
  clear hl4 hb4 hv4 hB H4
  have H5 := Lib.hid (HR.out w4 Hr.out)
  go_wp2_with fail
  refine H5.out.mono ?_
  rintro e w' ⟨rfl, rfl⟩
  clear H5 HR Hr
  obtain ⟨cv, hcv⟩ : ∃ cv, cmpZ X Y = cv := ⟨_, rfl⟩
  have b1 : decide (0 < cv) = true := decide_eq_true (by rw [← hcv, cmpZ_gt F2.out]; decide)
  have H6 := Lib.hid (rcmp_v cv A3 m3 c3 d3 A4 m4 c4 d4 w4 HU.out.1 HV.out.1 HU.out.2.1 HV.out.2.1 (by omega) (by omega) (by show _ = _; rw [HU.out.2.2, HV.out.2.2]; exact hcv))
  clear hcv
  go_wp2_with fail
  refine H6.out.mono ?_
  rintro e w5 ⟨rfl, hB⟩
  replace HA : Hid (Lim w5 A n c xs) := HA.out.below hB
  replace HB : Hid (Lim w5 B m d ys) := HB.out.below hB
  replace HU : Hid (Dig w5 A3 m3 c3 d3 ∧ D.Bare d3 ∧ D.val d3 = X) := ⟨HU.out.1.below hB, HU.out.2⟩
  replace HV : Hid (Dig w5 A4 m4 c4 d4 ∧ D.Bare d4 ∧ D.val d4 = Y) := ⟨HV.out.1.below hB, HV.out.2⟩
  replace HS := Lib.hid (HS.out.trans (hB.mono HS.out.size))
  clear hB H6
  have Hfin := Lib.hid HS.out
  clear HS HA HB HU HV
  go_wp2
  go_ret
  exact ⟨rfl, Hfin.out⟩

set_option maxHeartbeats 2000000 in
set_option maxRecDepth 20000 in
theorem sexp_B (HEx : ExpMeets) (HLn : Ln2Meets) (A : Option Addr) (n c : Nat) (xs : List Nat) (B : Option Addr) (m d : Nat) (ys : List Nat) (s : Int) (w : World) (hT : Tab w) (hA : Lim w A n c xs) (hB : Lim w B m d ys) (hn : n ≤ 150) (hm : m ≤ 150) (hs1 : -9223372036854775808 ≤ s) (hs2 : s ≤ 9223372036854775807) (f1 : 8 ≤ s ∧ s ≤ 9000) (f2 : val xs ≤ val ys) (f3 : 2 ^ s.toNat < val ys) :
    Calls Tryd.prog 4 #[.slice A n c, .slice B m d, .int .i64 s] w fun e w' => e = .returned (.bool true) ∧ Below w.heap.size w w' := by
  have no : ¬ ExOk (val xs) (val ys) s := fun h => (by have := h.2.2; omega)
  have H1 := Lib.hid (salive_any HLn w hT)
  have HA := Lib.hid hA
  have HB := Lib.hid hB
  have HT := Lib.hid hT
  have HM := Lib.hid HEx
  have HS := Lib.hid (Below.refl w.heap.size w)
  obtain ⟨X, hX⟩ : ∃ X, val xs = X := ⟨_, rfl⟩
  obtain ⟨Y, hY⟩ : ∃ Y, val ys = Y := ⟨_, rfl⟩
  have HX := Lib.hid hX
  have HY := Lib.hid hY
  have Hsb : Hid (-9223372036854775808 ≤ s ∧ s ≤ 9223372036854775807) := ⟨hs1, hs2⟩
  have t1 : decide ((150 : Int) < (n : Int)) = false := decide_eq_false (by omega)
  have t1n : decide (150 < n) = false := decide_eq_false (by omega)
  have t2 : decide ((150 : Int) < (m : Int)) = false := decide_eq_false (by omega)
  have t2n : decide (150 < m) = false := decide_eq_false (by omega)
  have HR := Lib.hid (right_l s true)
  have Hr : Hid (decide (8 ≤ s ∧ s ≤ 9000) = true) := decide_eq_true f1
  obtain ⟨σ, rfl⟩ := Int.eq_ofNat_of_zero_le (show 0 ≤ s by have := f1.1; omega)
  have hσ : σ ≤ 9000 := by have := f1.2; omega
  have hσ8 : (8 : Int) ≤ (σ : Int) := f1.1
  rw [hX, hY] at f2
  have F2 := Lib.hid f2
  rw [hY, Int.toNat_natCast] at f3
  have F3 := Lib.hid f3
  clear HLn HEx hT hA hB hs1 hs2 f1 f2 hX hY f3
  go_enter Tryd.func4, Tryd.ntmps4
  go_wp2_with fail
  refine H1.out.mono ?_
  rintro e w1 ⟨rfl, hB⟩
  replace HA : Hid (Lim w1 A n c xs) := HA.out.below hB
  replace HB : Hid (Lim w1 B m d ys) := HB.out.below hB
  replace HT : Hid (Tab w1) := HT.out.below hB
  replace HS := Lib.hid (HS.out.trans (hB.mono HS.out.size))
  clear hB H1
  have H2 := Lib.hid (HM.out A n c xs B m d ys (σ : Int) w1 HA.out HB.out hn hm HT.out Hsb.out.1 Hsb.out.2)
  clear HM HT Hsb
  go_wp2_with fail
  refine H2.out.mono ?_
  rintro e w2 ⟨Ap, mp, cp, zs, Aq, mq, cq, us, r, rfl, hmp, hmq, hlp, hlq, hB0, hq⟩
  replace HA : Hid (Lim w2 A n c xs) := HA.out.below hB0
  replace HB : Hid (Lim w2 B m d ys) := HB.out.below hB0
  replace HS := Lib.hid (HS.out.trans (hB0.mono HS.out.size))
  obtain ⟨rfl, rfl, rfl⟩ : r = 1 ∧ mp = 0 ∧ mq = 0 := by
    rcases hq with ⟨h, _⟩ | ⟨_, h1, h2, h3⟩
    · exact absurd h no
    · exact ⟨h1, h2, h3⟩
  clear hq hlp hlq hB0 hmp hmq H2 no
  have H3 := to_any A n c xs w2 HA.out (by omega)
  rw [HX.out] at H3
  replace H3 := Lib.hid H3
  go_wp2_with fail
  refine H3.out.mono ?_
  rintro e w3 ⟨A3, m3, c3, d3, rfl, hm3, hl3, hb3, hv3, hB⟩
  replace HA : Hid (Lim w3 A n c xs) := HA.out.below hB
  replace HB : Hid (Lim w3 B m d ys) := HB.out.below hB
  replace HS := Lib.hid (HS.out.trans (hB.mono HS.out.size))
  have HU : Hid (Dig w3 A3 m3 c3 d3 ∧ D.Bare d3 ∧ D.val d3 = X) := ⟨hl3, hb3, hv3⟩
  clear hl3 hb3 hv3 hB H3
  have H4 := to_any B m d ys w3 HB.out (by omega)
  rw [HY.out] at H4
  replace H4 := Lib.hid H4
  go_wp2_with fail
  refine H4.out.mono ?_
  rintro e w4 ⟨A4, m4, c4, d4, rfl, hm4, hl4, hb4, hv4, hB⟩
  replace HA : Hid (Lim w4 A n c xs) := HA.out.below hB
  replace HB : Hid (Lim w4 B m d ys) := HB.out.below hB
  replace HU : Hid (Dig w4 A3 m3 c3 d3 ∧ D.Bare d3 ∧ D.val d3 = X) := ⟨HU.out.1.below hB, HU.out.2⟩
  replace HS := Lib.hid (HS.out.trans (hB.mono HS.out.size))
  have HV : Hid (Dig w4 A4 m4 c4 d4 ∧ D.Bare d4 ∧ D.val d4 = Y) := ⟨hl4, hb4, hv4⟩
  clear hl4 hb4 hv4 hB H4
  have H5 := Lib.hid (HR.out w4 Hr.out)
  go_wp2_with fail
  refine H5.out.mono ?_
  rintro e w' ⟨rfl, rfl⟩
  clear H5 HR Hr
  obtain ⟨cv, hcv⟩ : ∃ cv, cmpZ X Y = cv := ⟨_, rfl⟩
  have b1 : decide (0 < cv) = false := decide_eq_false (by rw [← hcv]; have := cmpZ_down (show X ≤ Y by have := F2.out; omega); omega)
  have H6 := Lib.hid (rcmp_v cv A3 m3 c3 d3 A4 m4 c4 d4 w4 HU.out.1 HV.out.1 HU.out.2.1 HV.out.2.1 (by omega) (by omega) (by show _ = _; rw [HU.out.2.2, HV.out.2.2]; exact hcv))
  clear hcv
  go_wp2_with fail
  refine H6.out.mono ?_
  rintro e w5 ⟨rfl, hB⟩
  replace HA : Hid (Lim w5 A n c xs) := HA.out.below hB
  replace HB : Hid (Lim w5 B m d ys) := HB.out.below hB
  replace HU : Hid (Dig w5 A3 m3 c3 d3 ∧ D.Bare d3 ∧ D.val d3 = X) := ⟨HU.out.1.below hB, HU.out.2⟩
  replace HV : Hid (Dig w5 A4 m4 c4 d4 ∧ D.Bare d4 ∧ D.val d4 = Y) := ⟨HV.out.1.below hB, HV.out.2⟩
  replace HS := Lib.hid (HS.out.trans (hB.mono HS.out.size))
  clear hB H6
  have H7 := Lib.hid (num_any 1 (by decide) w5)
  go_wp2_with fail
  refine H7.out.mono ?_
  rintro e w6 ⟨A6, m6, c6, d6, rfl, hm6, hl6, hb6, hv6, hB⟩
  replace HA : Hid (Lim w6 A n c xs) := HA.out.below hB
  replace HB : Hid (Lim w6 B m d ys) := HB.out.below hB
  replace HU : Hid (Dig w6 A3 m3 c3 d3 ∧ D.Bare d3 ∧ D.val d3 = X) := ⟨HU.out.1.below hB, HU.out.2⟩
  replace HV : Hid (Dig w6 A4 m4 c4 d4 ∧ D.Bare d4 ∧ D.val d4 = Y) := ⟨HV.out.1.below hB, HV.out.2⟩
  replace HS := Lib.hid (HS.out.trans (hB.mono HS.out.size))
  have H1n : Hid (Dig w6 A6 m6 c6 d6 ∧ D.Bare d6 ∧ D.val d6 = 1) := ⟨hl6, hb6, hv6⟩
  clear hl6 hb6 hv6 hB H7
  have H8 := rshl_any A6 m6 c6 d6 σ w6 H1n.out.1 H1n.out.2.1 (by omega) (by omega)
  rw [H1n.out.2.2, Nat.one_mul] at H8
  obtain ⟨T, hT⟩ : ∃ T, 2 ^ σ = T := ⟨_, rfl⟩
  rw [hT] at H8
  have HTe := Lib.hid hT
  replace H8 := Lib.hid H8
  clear hT
  clear H1n
  go_wp2_with fail
  refine H8.out.mono ?_
  rintro e w7 ⟨A7, m7, c7, d7, rfl, hm7, hl7, hb7, hv7, hB⟩
  replace HA : Hid (Lim w7 A n c xs) := HA.out.below hB
  replace HB : Hid (Lim w7 B m d ys) := HB.out.below hB
  replace HU : Hid (Dig w7 A3 m3 c3 d3 ∧ D.Bare d3 ∧ D.val d3 = X) := ⟨HU.out.1.below hB, HU.out.2⟩
  replace HV : Hid (Dig w7 A4 m4 c4 d4 ∧ D.Bare d4 ∧ D.val d4 = Y) := ⟨HV.out.1.below hB, HV.out.2⟩
  replace HS := Lib.hid (HS.out.trans (hB.mono HS.out.size))
  have HO1 : Hid (Dig w7 A7 m7 c7 d7 ∧ D.Bare d7 ∧ D.val d7 = T) := ⟨hl7, hb7, hv7⟩
  clear hl7 hb7 hv7 hB H8
  obtain ⟨ct, hct⟩ : ∃ cv, cmpZ Y T = cv := ⟨_, rfl⟩
  have b2 : decide (0 < ct) = true := decide_eq_true (by rw [← hct, cmpZ_gt (by rw [← HTe.out]; exact F3.out)]; decide)
  have H9 := Lib.hid (rcmp_v ct A4 m4 c4 d4 A7 m7 c7 d7 w7 HV.out.1 HO1.out.1 HV.out.2.1 HO1.out.2.1 (by omega) (by omega) (by show _ = _; rw [HV.out.2.2, HO1.out.2.2]; exact hct))
  clear hct
  clear HO1
  go_wp2_with fail
  refine H9.out.mono ?_
  rintro e w8 ⟨rfl, hB⟩
  replace HA : Hid (Lim w8 A n c xs) := HA.out.below hB
  replace HB : Hid (Lim w8 B m d ys) := HB.out.below hB
  replace HU : Hid (Dig w8 A3 m3 c3 d3 ∧ D.Bare d3 ∧ D.val d3 = X) := ⟨HU.out.1.below hB, HU.out.2⟩
  replace HV : Hid (Dig w8 A4 m4 c4 d4 ∧ D.Bare d4 ∧ D.val d4 = Y) := ⟨HV.out.1.below hB, HV.out.2⟩
  replace HS := Lib.hid (HS.out.trans (hB.mono HS.out.size))
  clear hB H9
  have Hfin := Lib.hid HS.out
  clear HS HA HB HU HV
  go_wp2
  go_ret
  exact ⟨rfl, Hfin.out⟩

set_option maxHeartbeats 2000000 in
set_option maxRecDepth 20000 in
theorem sexp_eq (HEx : ExpMeets) (HLn : Ln2Meets) (A : Option Addr) (n c : Nat) (xs : List Nat) (B : Option Addr) (m d : Nat) (ys : List Nat) (s : Int) (w : World) (hT : Tab w) (hA : Lim w A n c xs) (hB : Lim w B m d ys) (hn : n ≤ 150) (hm : m ≤ 150) (hs1 : -9223372036854775808 ≤ s) (hs2 : s ≤ 9223372036854775807) (f1 : 8 ≤ s ∧ s ≤ 9000) (f2 : val xs = val ys) (f3 : val ys ≤ 2 ^ s.toNat) :
    Calls Tryd.prog 4 #[.slice A n c, .slice B m d, .int .i64 s] w fun e w' => e = .returned (.bool true) ∧ Below w.heap.size w w' := by
  have ok : ExOk (val xs) (val ys) s := ⟨f1, by omega, f3⟩
  have H1 := Lib.hid (salive_any HLn w hT)
  have HA := Lib.hid hA
  have HB := Lib.hid hB
  have HT := Lib.hid hT
  have HM := Lib.hid HEx
  have HS := Lib.hid (Below.refl w.heap.size w)
  obtain ⟨X, hX⟩ : ∃ X, val xs = X := ⟨_, rfl⟩
  obtain ⟨Y, hY⟩ : ∃ Y, val ys = Y := ⟨_, rfl⟩
  have HX := Lib.hid hX
  have HY := Lib.hid hY
  have Hsb : Hid (-9223372036854775808 ≤ s ∧ s ≤ 9223372036854775807) := ⟨hs1, hs2⟩
  have t1 : decide ((150 : Int) < (n : Int)) = false := decide_eq_false (by omega)
  have t1n : decide (150 < n) = false := decide_eq_false (by omega)
  have t2 : decide ((150 : Int) < (m : Int)) = false := decide_eq_false (by omega)
  have t2n : decide (150 < m) = false := decide_eq_false (by omega)
  have HR := Lib.hid (right_l s true)
  have Hr : Hid (decide (8 ≤ s ∧ s ≤ 9000) = true) := decide_eq_true f1
  obtain ⟨σ, rfl⟩ := Int.eq_ofNat_of_zero_le (show 0 ≤ s by have := f1.1; omega)
  have hσ : σ ≤ 9000 := by have := f1.2; omega
  have hσ8 : (8 : Int) ≤ (σ : Int) := f1.1
  rw [hX, hY] at f2
  have F2 := Lib.hid f2
  rw [hY, Int.toNat_natCast] at f3
  have F3 := Lib.hid f3
  obtain ⟨p, hp⟩ : ∃ p, 4 * σ = p := ⟨_, rfl⟩
  have ep : (4 : Int) * (σ : Int) = (p : Int) := by omega
  obtain ⟨t64, ht64⟩ : ∃ t, p + 64 = t := ⟨_, rfl⟩
  have e64 : (p : Int) + 64 = (t64 : Int) := by omega
  obtain ⟨t80, ht80⟩ : ∃ t, σ + 80 = t := ⟨_, rfl⟩
  have e80 : (σ : Int) + 80 = (t80 : Int) := by omega
  have H64 : Hid (4 * σ + 64 = t64) := by show _ = _; omega
  have H80 := Lib.hid ht80
  have hp9 : p ≤ 36000 := by omega
  have h649 : t64 ≤ 36064 := by omega
  have h809 : t80 ≤ 9080 := by omega
  clear HLn HEx hT hA hB hs1 hs2 f1 f2 hX hY f3 hp ht64 ht80
  go_enter Tryd.func4, Tryd.ntmps4
  go_wp2_with fail
  refine H1.out.mono ?_
  rintro e w1 ⟨rfl, hB⟩
  replace HA : Hid (Lim w1 A n c xs) := HA.out.below hB
  replace HB : Hid (Lim w1 B m d ys) := HB.out.below hB
  replace HT : Hid (Tab w1) := HT.out.below hB
  replace HS := Lib.hid (HS.out.trans (hB.mono HS.out.size))
  clear hB H1
  have H2 := Lib.hid (HM.out A n c xs B m d ys (σ : Int) w1 HA.out HB.out hn hm HT.out Hsb.out.1 Hsb.out.2)
  clear HM HT Hsb
  go_wp2_with fail
  refine H2.out.mono ?_
  rintro e w2 ⟨Ap, mp, cp, zs, Aq, mq, cq, us, r, rfl, hmp, hmq, hlp, hlq, hB0, hq⟩
  replace HA : Hid (Lim w2 A n c xs) := HA.out.below hB0
  replace HB : Hid (Lim w2 B m d ys) := HB.out.below hB0
  replace HS := Lib.hid (HS.out.trans (hB0.mono HS.out.size))
  obtain ⟨rfl, hq1, hq2, hq3⟩ : r = 0 ∧ ExB (val xs) (val ys) σ (val zs) (val us) ∧ val zs ≤ val us ∧ (val xs = val ys → val us - val zs ≤ 4 * σ + 64) := by
    rcases hq with ⟨_, h1, h2, h3, h4⟩ | ⟨h, _⟩
    · rw [Int.toNat_natCast] at h2 h4; exact ⟨h1, h2, h3, h4⟩
    · exact absurd ok h
  rw [HX.out, HY.out] at hq1 hq3
  have HQ := Lib.hid hq1
  have HO := Lib.hid hq2
  have HD := Lib.hid hq3
  have HP : Hid (Lim w2 Ap mp cp zs) := hlp
  have HZ : Hid (Lim w2 Aq mq cq us) := hlq
  clear hq hq1 hq2 hq3 hlp hlq hB0 H2 ok
  have H3 := to_any A n c xs w2 HA.out (by omega)
  rw [HX.out] at H3
  replace H3 := Lib.hid H3
  go_wp2_with fail
  refine H3.out.mono ?_
  rintro e w3 ⟨A3, m3, c3, d3, rfl, hm3, hl3, hb3, hv3, hB⟩
  replace HA : Hid (Lim w3 A n c xs) := HA.out.below hB
  replace HB : Hid (Lim w3 B m d ys) := HB.out.below hB
  replace HP : Hid (Lim w3 Ap mp cp zs) := HP.out.below hB
  replace HZ : Hid (Lim w3 Aq mq cq us) := HZ.out.below hB
  replace HS := Lib.hid (HS.out.trans (hB.mono HS.out.size))
  have HU : Hid (Dig w3 A3 m3 c3 d3 ∧ D.Bare d3 ∧ D.val d3 = X) := ⟨hl3, hb3, hv3⟩
  clear hl3 hb3 hv3 hB H3
  have H4 := to_any B m d ys w3 HB.out (by omega)
  rw [HY.out] at H4
  replace H4 := Lib.hid H4
  go_wp2_with fail
  refine H4.out.mono ?_
  rintro e w4 ⟨A4, m4, c4, d4, rfl, hm4, hl4, hb4, hv4, hB⟩
  replace HA : Hid (Lim w4 A n c xs) := HA.out.below hB
  replace HB : Hid (Lim w4 B m d ys) := HB.out.below hB
  replace HP : Hid (Lim w4 Ap mp cp zs) := HP.out.below hB
  replace HZ : Hid (Lim w4 Aq mq cq us) := HZ.out.below hB
  replace HU : Hid (Dig w4 A3 m3 c3 d3 ∧ D.Bare d3 ∧ D.val d3 = X) := ⟨HU.out.1.below hB, HU.out.2⟩
  replace HS := Lib.hid (HS.out.trans (hB.mono HS.out.size))
  have HV : Hid (Dig w4 A4 m4 c4 d4 ∧ D.Bare d4 ∧ D.val d4 = Y) := ⟨hl4, hb4, hv4⟩
  clear hl4 hb4 hv4 hB H4
  have H5 := Lib.hid (HR.out w4 Hr.out)
  go_wp2_with fail
  refine H5.out.mono ?_
  rintro e w' ⟨rfl, rfl⟩
  clear H5 HR Hr
  obtain ⟨cv, hcv⟩ : ∃ cv, cmpZ X Y = cv := ⟨_, rfl⟩
  have b1 : decide (0 < cv) = false := decide_eq_false (by rw [← hcv]; have := cmpZ_down (show X ≤ Y by have := F2.out; omega); omega)
  have H6 := Lib.hid (rcmp_v cv A3 m3 c3 d3 A4 m4 c4 d4 w4 HU.out.1 HV.out.1 HU.out.2.1 HV.out.2.1 (by omega) (by omega) (by show _ = _; rw [HU.out.2.2, HV.out.2.2]; exact hcv))
  clear hcv
  go_wp2_with fail
  refine H6.out.mono ?_
  rintro e w5 ⟨rfl, hB⟩
  replace HA : Hid (Lim w5 A n c xs) := HA.out.below hB
  replace HB : Hid (Lim w5 B m d ys) := HB.out.below hB
  replace HP : Hid (Lim w5 Ap mp cp zs) := HP.out.below hB
  replace HZ : Hid (Lim w5 Aq mq cq us) := HZ.out.below hB
  replace HU : Hid (Dig w5 A3 m3 c3 d3 ∧ D.Bare d3 ∧ D.val d3 = X) := ⟨HU.out.1.below hB, HU.out.2⟩
  replace HV : Hid (Dig w5 A4 m4 c4 d4 ∧ D.Bare d4 ∧ D.val d4 = Y) := ⟨HV.out.1.below hB, HV.out.2⟩
  replace HS := Lib.hid (HS.out.trans (hB.mono HS.out.size))
  clear hB H6
  have H7 := Lib.hid (num_any 1 (by decide) w5)
  go_wp2_with fail
  refine H7.out.mono ?_
  rintro e w6 ⟨A6, m6, c6, d6, rfl, hm6, hl6, hb6, hv6, hB⟩
  replace HA : Hid (Lim w6 A n c xs) := HA.out.below hB
  replace HB : Hid (Lim w6 B m d ys) := HB.out.below hB
  replace HP : Hid (Lim w6 Ap mp cp zs) := HP.out.below hB
  replace HZ : Hid (Lim w6 Aq mq cq us) := HZ.out.below hB
  replace HU : Hid (Dig w6 A3 m3 c3 d3 ∧ D.Bare d3 ∧ D.val d3 = X) := ⟨HU.out.1.below hB, HU.out.2⟩
  replace HV : Hid (Dig w6 A4 m4 c4 d4 ∧ D.Bare d4 ∧ D.val d4 = Y) := ⟨HV.out.1.below hB, HV.out.2⟩
  replace HS := Lib.hid (HS.out.trans (hB.mono HS.out.size))
  have H1n : Hid (Dig w6 A6 m6 c6 d6 ∧ D.Bare d6 ∧ D.val d6 = 1) := ⟨hl6, hb6, hv6⟩
  clear hl6 hb6 hv6 hB H7
  have H8 := rshl_any A6 m6 c6 d6 σ w6 H1n.out.1 H1n.out.2.1 (by omega) (by omega)
  rw [H1n.out.2.2, Nat.one_mul] at H8
  obtain ⟨T, hT⟩ : ∃ T, 2 ^ σ = T := ⟨_, rfl⟩
  rw [hT] at H8
  have HTe := Lib.hid hT
  replace H8 := Lib.hid H8
  clear hT
  clear H1n
  go_wp2_with fail
  refine H8.out.mono ?_
  rintro e w7 ⟨A7, m7, c7, d7, rfl, hm7, hl7, hb7, hv7, hB⟩
  replace HA : Hid (Lim w7 A n c xs) := HA.out.below hB
  replace HB : Hid (Lim w7 B m d ys) := HB.out.below hB
  replace HP : Hid (Lim w7 Ap mp cp zs) := HP.out.below hB
  replace HZ : Hid (Lim w7 Aq mq cq us) := HZ.out.below hB
  replace HU : Hid (Dig w7 A3 m3 c3 d3 ∧ D.Bare d3 ∧ D.val d3 = X) := ⟨HU.out.1.below hB, HU.out.2⟩
  replace HV : Hid (Dig w7 A4 m4 c4 d4 ∧ D.Bare d4 ∧ D.val d4 = Y) := ⟨HV.out.1.below hB, HV.out.2⟩
  replace HS := Lib.hid (HS.out.trans (hB.mono HS.out.size))
  have HO1 : Hid (Dig w7 A7 m7 c7 d7 ∧ D.Bare d7 ∧ D.val d7 = T) := ⟨hl7, hb7, hv7⟩
  clear hl7 hb7 hv7 hB H8
  obtain ⟨ct, hct⟩ : ∃ cv, cmpZ Y T = cv := ⟨_, rfl⟩
  have b2 : decide (0 < ct) = false := decide_eq_false (by rw [← hct]; have := cmpZ_down (show Y ≤ T by rw [← HTe.out]; exact F3.out); omega)
  have H9 := Lib.hid (rcmp_v ct A4 m4 c4 d4 A7 m7 c7 d7 w7 HV.out.1 HO1.out.1 HV.out.2.1 HO1.out.2.1 (by omega) (by omega) (by show _ = _; rw [HV.out.2.2, HO1.out.2.2]; exact hct))
  clear hct
  clear HO1
  go_wp2_with fail
  refine H9.out.mono ?_
  rintro e w8 ⟨rfl, hB⟩
  replace HA : Hid (Lim w8 A n c xs) := HA.out.below hB
  replace HB : Hid (Lim w8 B m d ys) := HB.out.below hB
  replace HP : Hid (Lim w8 Ap mp cp zs) := HP.out.below hB
  replace HZ : Hid (Lim w8 Aq mq cq us) := HZ.out.below hB
  replace HU : Hid (Dig w8 A3 m3 c3 d3 ∧ D.Bare d3 ∧ D.val d3 = X) := ⟨HU.out.1.below hB, HU.out.2⟩
  replace HV : Hid (Dig w8 A4 m4 c4 d4 ∧ D.Bare d4 ∧ D.val d4 = Y) := ⟨HV.out.1.below hB, HV.out.2⟩
  replace HS := Lib.hid (HS.out.trans (hB.mono HS.out.size))
  clear hB H9
  obtain ⟨ch, hch⟩ : ∃ cv, cmpZ (val zs) (val us) = cv := ⟨_, rfl⟩
  have b3 : decide (0 < ch) = false := decide_eq_false (by rw [← hch]; have := cmpZ_down HO.out; omega)
  have H10 := Lib.hid (cmp_b ch Ap mp cp zs Aq mq cq us w8 HP.out HZ.out (by omega) (by omega) hch)
  clear hch
  go_wp2_with fail
  refine H10.out.mono ?_
  rintro e w9 ⟨rfl, hB⟩
  replace HA : Hid (Lim w9 A n c xs) := HA.out.below hB
  replace HB : Hid (Lim w9 B m d ys) := HB.out.below hB
  replace HP : Hid (Lim w9 Ap mp cp zs) := HP.out.below hB
  replace HZ : Hid (Lim w9 Aq mq cq us) := HZ.out.below hB
  replace HU : Hid (Dig w9 A3 m3 c3 d3 ∧ D.Bare d3 ∧ D.val d3 = X) := ⟨HU.out.1.below hB, HU.out.2⟩
  replace HV : Hid (Dig w9 A4 m4 c4 d4 ∧ D.Bare d4 ∧ D.val d4 = Y) := ⟨HV.out.1.below hB, HV.out.2⟩
  replace HS := Lib.hid (HS.out.trans (hB.mono HS.out.size))
  clear hB H10
  obtain ⟨ce, hce⟩ : ∃ cv, cmpZ X Y = cv := ⟨_, rfl⟩
  obtain rfl : ce = 0 := by rw [← hce]; exact cmpZ_eq F2.out
  have H11 := Lib.hid (cmp_b 0 A n c xs B m d ys w9 HA.out HB.out (by omega) (by omega) (by show _ = _; rw [HX.out, HY.out]; exact hce))
  clear hce
  go_wp2_with fail
  refine H11.out.mono ?_
  rintro e w10 ⟨rfl, hB⟩
  replace HA : Hid (Lim w10 A n c xs) := HA.out.below hB
  replace HB : Hid (Lim w10 B m d ys) := HB.out.below hB
  replace HP : Hid (Lim w10 Ap mp cp zs) := HP.out.below hB
  replace HZ : Hid (Lim w10 Aq mq cq us) := HZ.out.below hB
  replace HU : Hid (Dig w10 A3 m3 c3 d3 ∧ D.Bare d3 ∧ D.val d3 = X) := ⟨HU.out.1.below hB, HU.out.2⟩
  replace HV : Hid (Dig w10 A4 m4 c4 d4 ∧ D.Bare d4 ∧ D.val d4 = Y) := ⟨HV.out.1.below hB, HV.out.2⟩
  replace HS := Lib.hid (HS.out.trans (hB.mono HS.out.size))
  clear hB H11
  clear HA HB
  have H12 := Lib.hid (wide_yes Ap mp cp zs Aq mq cq us t64 w10 HP.out HZ.out (by omega) (by omega) (by omega) HO.out (by have := HD.out F2.out; rw [← H64.out]; exact this))
  go_wp2_with fail
  refine H12.out.mono ?_
  rintro e w11 ⟨rfl, hB⟩
  replace HP : Hid (Lim w11 Ap mp cp zs) := HP.out.below hB
  replace HZ : Hid (Lim w11 Aq mq cq us) := HZ.out.below hB
  replace HU : Hid (Dig w11 A3 m3 c3 d3 ∧ D.Bare d3 ∧ D.val d3 = X) := ⟨HU.out.1.below hB, HU.out.2⟩
  replace HV : Hid (Dig w11 A4 m4 c4 d4 ∧ D.Bare d4 ∧ D.val d4 = Y) := ⟨HV.out.1.below hB, HV.out.2⟩
  replace HS := Lib.hid (HS.out.trans (hB.mono HS.out.size))
  clear hB H12
  by_cases h400 : 400 < σ
  · have b10 : decide (400 < σ) = true := decide_eq_true h400
    have b11 : decide ((400 : Int) < (σ : Int)) = true := decide_eq_true (by omega)
    clear h400
    have Hfin := Lib.hid HS.out
    clear HS HP HZ HU HV HQ HD HO
    go_wp2
    go_ret
    exact ⟨rfl, Hfin.out⟩
  · have b10 : decide (400 < σ) = false := decide_eq_false h400
    have b11 : decide ((400 : Int) < (σ : Int)) = false := decide_eq_false (by omega)
    have ht80 : t80 ≤ 480 := by have := H80.out; omega
    have HF : Hid (X ≤ 2 ^ σ ∧ Y ≤ 2 ^ σ) := ⟨Nat.le_trans (by have := F2.out; omega) F3.out, F3.out⟩
    obtain ⟨T80, hT80⟩ : ∃ T, 2 ^ 80 = T := ⟨_, rfl⟩
    have HT8 := Lib.hid hT80
    have hpw : ∀ Z, Z ≤ 2 ^ σ → Z * T80 ≤ 2 ^ t80 := fun Z hZ => by rw [← H80.out, Nat.pow_add, hT80]; exact Nat.mul_le_mul_right _ hZ
    have HPW := Lib.hid hpw
    clear hT80 hpw h400
    have H13 := rshl_any A3 m3 c3 d3 80 w11 HU.out.1 HU.out.2.1 (by omega) (by decide)
    rw [HU.out.2.2, HT8.out] at H13
    replace H13 := Lib.hid H13
    clear HU
    go_wp2_with fail
    refine H13.out.mono ?_
    rintro e w12 ⟨A12, m12, c12, d12, rfl, hm12, hl12, hb12, hv12, hB⟩
    replace HP : Hid (Lim w12 Ap mp cp zs) := HP.out.below hB
    replace HZ : Hid (Lim w12 Aq mq cq us) := HZ.out.below hB
    replace HV : Hid (Dig w12 A4 m4 c4 d4 ∧ D.Bare d4 ∧ D.val d4 = Y) := ⟨HV.out.1.below hB, HV.out.2⟩
    replace HS := Lib.hid (HS.out.trans (hB.mono HS.out.size))
    have HU8 : Hid (Dig w12 A12 m12 c12 d12 ∧ D.Bare d12 ∧ D.val d12 = X * T80) := ⟨hl12, hb12, hv12⟩
    clear hl12 hb12 hv12 hB H13
    have hlen12 : m12 ≤ 300 := dlen_le HU8.out.1 HU8.out.2.1 HU8.out.2.2 (k := t80 + 1) (by have := HPW.out X HF.out.1; rw [Nat.pow_succ]; have := Nat.two_pow_pos t80; omega) (by omega)
    have H14 := rexp_l t80 A12 m12 c12 d12 w12 HU8.out.1 HU8.out.2.1 hlen12 (by omega) (by rw [HU8.out.2.2]; exact HPW.out X HF.out.1)
    rw [HU8.out.2.2] at H14
    replace H14 := Lib.hid H14
    clear HU8
    go_wp2_with fail
    refine H14.out.mono ?_
    rintro e w13 ⟨KX, hKX, A13, m13, c13, d13, rfl, hm13, hl13, hb13, hv13, hB⟩
    replace HP : Hid (Lim w13 Ap mp cp zs) := HP.out.below hB
    replace HZ : Hid (Lim w13 Aq mq cq us) := HZ.out.below hB
    replace HV : Hid (Dig w13 A4 m4 c4 d4 ∧ D.Bare d4 ∧ D.val d4 = Y) := ⟨HV.out.1.below hB, HV.out.2⟩
    replace HS := Lib.hid (HS.out.trans (hB.mono HS.out.size))
    obtain ⟨EX, hEX⟩ : ∃ E, de (2 ^ t80) (X * T80) KX 1 = E := ⟨_, rfl⟩
    rw [hEX] at hv13
    have HLo : Hid (val zs * T80 ≤ EX + 1048576) := by
      have h := ex_low (s := σ) (K := KX) HF.out.1 (by rw [H80.out]; exact hKX) HQ.out.1
      rw [H80.out, HT8.out, hEX] at h
      exact h
    have HEX : Hid (Dig w13 A13 m13 c13 d13 ∧ D.Bare d13 ∧ D.val d13 = EX) := ⟨hl13, hb13, hv13⟩
    clear hl13 hb13 hv13 hB H14 hKX hEX
    have H13 := rshl_any A4 m4 c4 d4 80 w13 HV.out.1 HV.out.2.1 (by omega) (by decide)
    rw [HV.out.2.2, HT8.out] at H13
    replace H13 := Lib.hid H13
    clear HV
    go_wp2_with fail
    refine H13.out.mono ?_
    rintro e w14 ⟨A14, m14, c14, d14, rfl, hm14, hl14, hb14, hv14, hB⟩
    replace HP : Hid (Lim w14 Ap mp cp zs) := HP.out.below hB
    replace HZ : Hid (Lim w14 Aq mq cq us) := HZ.out.below hB
    replace HEX : Hid (Dig w14 A13 m13 c13 d13 ∧ D.Bare d13 ∧ D.val d13 = EX) := ⟨HEX.out.1.below hB, HEX.out.2⟩
    replace HS := Lib.hid (HS.out.trans (hB.mono HS.out.size))
    have HV8 : Hid (Dig w14 A14 m14 c14 d14 ∧ D.Bare d14 ∧ D.val d14 = Y * T80) := ⟨hl14, hb14, hv14⟩
    clear hl14 hb14 hv14 hB H13
    have hlen14 : m14 ≤ 300 := dlen_le HV8.out.1 HV8.out.2.1 HV8.out.2.2 (k := t80 + 1) (by have := HPW.out Y HF.out.2; rw [Nat.pow_succ]; have := Nat.two_pow_pos t80; omega) (by omega)
    have H14 := rexp_l t80 A14 m14 c14 d14 w14 HV8.out.1 HV8.out.2.1 hlen14 (by omega) (by rw [HV8.out.2.2]; exact HPW.out Y HF.out.2)
    rw [HV8.out.2.2] at H14
    replace H14 := Lib.hid H14
    clear HV8
    go_wp2_with fail
    refine H14.out.mono ?_
    rintro e w15 ⟨KY, hKY, A15, m15, c15, d15, rfl, hm15, hl15, hb15, hv15, hB⟩
    replace HP : Hid (Lim w15 Ap mp cp zs) := HP.out.below hB
    replace HZ : Hid (Lim w15 Aq mq cq us) := HZ.out.below hB
    replace HEX : Hid (Dig w15 A13 m13 c13 d13 ∧ D.Bare d13 ∧ D.val d13 = EX) := ⟨HEX.out.1.below hB, HEX.out.2⟩
    replace HS := Lib.hid (HS.out.trans (hB.mono HS.out.size))
    obtain ⟨EY, hEY⟩ : ∃ E, de (2 ^ t80) (Y * T80) KY 1 = E := ⟨_, rfl⟩
    rw [hEY] at hv15
    have HHi : Hid (EY ≤ val us * T80) := by
      have h := ex_high (s := σ) (K := KY) HF.out.2 HQ.out.2
      rw [H80.out, HT8.out, hEY] at h
      exact h
    have HEY : Hid (Dig w15 A15 m15 c15 d15 ∧ D.Bare d15 ∧ D.val d15 = EY) := ⟨hl15, hb15, hv15⟩
    clear hl15 hb15 hv15 hB H14 hKY hEY
    have H15 := Lib.hid (to_any Ap mp cp zs w15 HP.out (by omega))
    clear HP
    go_wp2_with fail
    refine H15.out.mono ?_
    rintro e w16 ⟨A16, m16, c16, d16, rfl, hm16, hl16, hb16, hv16, hB⟩
    replace HZ : Hid (Lim w16 Aq mq cq us) := HZ.out.below hB
    replace HEX : Hid (Dig w16 A13 m13 c13 d13 ∧ D.Bare d13 ∧ D.val d13 = EX) := ⟨HEX.out.1.below hB, HEX.out.2⟩
    replace HEY : Hid (Dig w16 A15 m15 c15 d15 ∧ D.Bare d15 ∧ D.val d15 = EY) := ⟨HEY.out.1.below hB, HEY.out.2⟩
    replace HS := Lib.hid (HS.out.trans (hB.mono HS.out.size))
    have Hto : Hid (Dig w16 A16 m16 c16 d16 ∧ D.Bare d16 ∧ D.val d16 = val zs) := ⟨hl16, hb16, hv16⟩
    clear hl16 hb16 hv16 hB H15
    have H16 := rshl_any A16 m16 c16 d16 80 w16 Hto.out.1 Hto.out.2.1 (by omega) (by decide)
    rw [Hto.out.2.2, HT8.out] at H16
    replace H16 := Lib.hid H16
    clear Hto
    go_wp2_with fail
    refine H16.out.mono ?_
    rintro e w17 ⟨A17, m17, c17, d17, rfl, hm17, hl17, hb17, hv17, hB⟩
    replace HZ : Hid (Lim w17 Aq mq cq us) := HZ.out.below hB
    replace HEX : Hid (Dig w17 A13 m13 c13 d13 ∧ D.Bare d13 ∧ D.val d13 = EX) := ⟨HEX.out.1.below hB, HEX.out.2⟩
    replace HEY : Hid (Dig w17 A15 m15 c15 d15 ∧ D.Bare d15 ∧ D.val d15 = EY) := ⟨HEY.out.1.below hB, HEY.out.2⟩
    replace HS := Lib.hid (HS.out.trans (hB.mono HS.out.size))
    have HC : Hid (Dig w17 A17 m17 c17 d17 ∧ D.Bare d17 ∧ D.val d17 = val zs * T80) := ⟨hl17, hb17, hv17⟩
    clear hl17 hb17 hv17 hB H16
    have H15 := Lib.hid (to_any Aq mq cq us w17 HZ.out (by omega))
    clear HZ
    go_wp2_with fail
    refine H15.out.mono ?_
    rintro e w18 ⟨A18, m18, c18, d18, rfl, hm18, hl18, hb18, hv18, hB⟩
    replace HEX : Hid (Dig w18 A13 m13 c13 d13 ∧ D.Bare d13 ∧ D.val d13 = EX) := ⟨HEX.out.1.below hB, HEX.out.2⟩
    replace HEY : Hid (Dig w18 A15 m15 c15 d15 ∧ D.Bare d15 ∧ D.val d15 = EY) := ⟨HEY.out.1.below hB, HEY.out.2⟩
    replace HC : Hid (Dig w18 A17 m17 c17 d17 ∧ D.Bare d17 ∧ D.val d17 = val zs * T80) := ⟨HC.out.1.below hB, HC.out.2⟩
    replace HS := Lib.hid (HS.out.trans (hB.mono HS.out.size))
    have Hto : Hid (Dig w18 A18 m18 c18 d18 ∧ D.Bare d18 ∧ D.val d18 = val us) := ⟨hl18, hb18, hv18⟩
    clear hl18 hb18 hv18 hB H15
    have H16 := rshl_any A18 m18 c18 d18 80 w18 Hto.out.1 Hto.out.2.1 (by omega) (by decide)
    rw [Hto.out.2.2, HT8.out] at H16
    replace H16 := Lib.hid H16
    clear Hto
    go_wp2_with fail
    refine H16.out.mono ?_
    rintro e w19 ⟨A19, m19, c19, d19, rfl, hm19, hl19, hb19, hv19, hB⟩
    replace HEX : Hid (Dig w19 A13 m13 c13 d13 ∧ D.Bare d13 ∧ D.val d13 = EX) := ⟨HEX.out.1.below hB, HEX.out.2⟩
    replace HEY : Hid (Dig w19 A15 m15 c15 d15 ∧ D.Bare d15 ∧ D.val d15 = EY) := ⟨HEY.out.1.below hB, HEY.out.2⟩
    replace HC : Hid (Dig w19 A17 m17 c17 d17 ∧ D.Bare d17 ∧ D.val d17 = val zs * T80) := ⟨HC.out.1.below hB, HC.out.2⟩
    replace HS := Lib.hid (HS.out.trans (hB.mono HS.out.size))
    have HDd : Hid (Dig w19 A19 m19 c19 d19 ∧ D.Bare d19 ∧ D.val d19 = val us * T80) := ⟨hl19, hb19, hv19⟩
    clear hl19 hb19 hv19 hB H16
    have H17 := Lib.hid (rwide_l w19)
    go_wp2_with fail
    refine H17.out.mono ?_
    rintro e w20 ⟨A20, m20, c20, d20, rfl, hm20, hl20, hb20, hv20, hB⟩
    replace HEX : Hid (Dig w20 A13 m13 c13 d13 ∧ D.Bare d13 ∧ D.val d13 = EX) := ⟨HEX.out.1.below hB, HEX.out.2⟩
    replace HEY : Hid (Dig w20 A15 m15 c15 d15 ∧ D.Bare d15 ∧ D.val d15 = EY) := ⟨HEY.out.1.below hB, HEY.out.2⟩
    replace HC : Hid (Dig w20 A17 m17 c17 d17 ∧ D.Bare d17 ∧ D.val d17 = val zs * T80) := ⟨HC.out.1.below hB, HC.out.2⟩
    replace HDd : Hid (Dig w20 A19 m19 c19 d19 ∧ D.Bare d19 ∧ D.val d19 = val us * T80) := ⟨HDd.out.1.below hB, HDd.out.2⟩
    replace HS := Lib.hid (HS.out.trans (hB.mono HS.out.size))
    have HWd : Hid (Dig w20 A20 m20 c20 d20 ∧ D.Bare d20 ∧ D.val d20 = 1048576) := ⟨hl20, hb20, hv20⟩
    clear hl20 hb20 hv20 hB H17
    have H18 := radd_any A13 m13 c13 d13 A20 m20 c20 d20 w20 HEX.out.1 HWd.out.1 HEX.out.2.1 HWd.out.2.1 (by omega) (by omega)
    rw [HEX.out.2.2, HWd.out.2.2] at H18
    replace H18 := Lib.hid H18
    clear HEX HWd
    go_wp2_with fail
    refine H18.out.mono ?_
    rintro e w21 ⟨A21, m21, c21, d21, rfl, hm21, hl21, hb21, hv21, hB⟩
    replace HEY : Hid (Dig w21 A15 m15 c15 d15 ∧ D.Bare d15 ∧ D.val d15 = EY) := ⟨HEY.out.1.below hB, HEY.out.2⟩
    replace HC : Hid (Dig w21 A17 m17 c17 d17 ∧ D.Bare d17 ∧ D.val d17 = val zs * T80) := ⟨HC.out.1.below hB, HC.out.2⟩
    replace HDd : Hid (Dig w21 A19 m19 c19 d19 ∧ D.Bare d19 ∧ D.val d19 = val us * T80) := ⟨HDd.out.1.below hB, HDd.out.2⟩
    replace HS := Lib.hid (HS.out.trans (hB.mono HS.out.size))
    have HSu : Hid (Dig w21 A21 m21 c21 d21 ∧ D.Bare d21 ∧ D.val d21 = EX + 1048576) := ⟨hl21, hb21, hv21⟩
    clear hl21 hb21 hv21 hB H18
    obtain ⟨ca, hca⟩ : ∃ cv, cmpZ (val zs * T80) (EX + 1048576) = cv := ⟨_, rfl⟩
    have b5 : decide (ca ≤ 0) = true := decide_eq_true (by rw [← hca]; exact cmpZ_down HLo.out)
    have H19 := Lib.hid (rcmp_v ca A17 m17 c17 d17 A21 m21 c21 d21 w21 HC.out.1 HSu.out.1 HC.out.2.1 HSu.out.2.1 (by omega) (by omega) (by show _ = _; rw [HC.out.2.2, HSu.out.2.2]; exact hca))
    clear hca
    clear HC HSu
    go_wp2_with fail
    refine H19.out.mono ?_
    rintro e w22 ⟨rfl, hB⟩
    replace HEY : Hid (Dig w22 A15 m15 c15 d15 ∧ D.Bare d15 ∧ D.val d15 = EY) := ⟨HEY.out.1.below hB, HEY.out.2⟩
    replace HDd : Hid (Dig w22 A19 m19 c19 d19 ∧ D.Bare d19 ∧ D.val d19 = val us * T80) := ⟨HDd.out.1.below hB, HDd.out.2⟩
    replace HS := Lib.hid (HS.out.trans (hB.mono HS.out.size))
    clear hB H19
    obtain ⟨cb, hcb⟩ : ∃ cv, cmpZ EY (val us * T80) = cv := ⟨_, rfl⟩
    have b6 : decide (cb ≤ 0) = true := decide_eq_true (by rw [← hcb]; exact cmpZ_down HHi.out)
    have H20 := Lib.hid (rcmp_v cb A15 m15 c15 d15 A19 m19 c19 d19 w22 HEY.out.1 HDd.out.1 HEY.out.2.1 HDd.out.2.1 (by omega) (by omega) (by show _ = _; rw [HEY.out.2.2, HDd.out.2.2]; exact hcb))
    clear hcb
    clear HEY HDd
    go_wp2_with fail
    refine H20.out.mono ?_
    rintro e w23 ⟨rfl, hB⟩
    replace HS := Lib.hid (HS.out.trans (hB.mono HS.out.size))
    clear hB H20
    have Hfin := Lib.hid HS.out
    clear HS  HQ HD HO HF HPW HT8 HLo HHi
    go_wp2
    go_ret
    exact ⟨rfl, Hfin.out⟩

set_option maxHeartbeats 2000000 in
set_option maxRecDepth 20000 in
theorem sexp_lt (HEx : ExpMeets) (HLn : Ln2Meets) (A : Option Addr) (n c : Nat) (xs : List Nat) (B : Option Addr) (m d : Nat) (ys : List Nat) (s : Int) (w : World) (hT : Tab w) (hA : Lim w A n c xs) (hB : Lim w B m d ys) (hn : n ≤ 150) (hm : m ≤ 150) (hs1 : -9223372036854775808 ≤ s) (hs2 : s ≤ 9223372036854775807) (f1 : 8 ≤ s ∧ s ≤ 9000) (f2 : val xs < val ys) (f3 : val ys ≤ 2 ^ s.toNat) :
    Calls Tryd.prog 4 #[.slice A n c, .slice B m d, .int .i64 s] w fun e w' => e = .returned (.bool true) ∧ Below w.heap.size w w' := by
  have ok : ExOk (val xs) (val ys) s := ⟨f1, by omega, f3⟩
  have H1 := Lib.hid (salive_any HLn w hT)
  have HA := Lib.hid hA
  have HB := Lib.hid hB
  have HT := Lib.hid hT
  have HM := Lib.hid HEx
  have HS := Lib.hid (Below.refl w.heap.size w)
  obtain ⟨X, hX⟩ : ∃ X, val xs = X := ⟨_, rfl⟩
  obtain ⟨Y, hY⟩ : ∃ Y, val ys = Y := ⟨_, rfl⟩
  have HX := Lib.hid hX
  have HY := Lib.hid hY
  have Hsb : Hid (-9223372036854775808 ≤ s ∧ s ≤ 9223372036854775807) := ⟨hs1, hs2⟩
  have t1 : decide ((150 : Int) < (n : Int)) = false := decide_eq_false (by omega)
  have t1n : decide (150 < n) = false := decide_eq_false (by omega)
  have t2 : decide ((150 : Int) < (m : Int)) = false := decide_eq_false (by omega)
  have t2n : decide (150 < m) = false := decide_eq_false (by omega)
  have HR := Lib.hid (right_l s true)
  have Hr : Hid (decide (8 ≤ s ∧ s ≤ 9000) = true) := decide_eq_true f1
  obtain ⟨σ, rfl⟩ := Int.eq_ofNat_of_zero_le (show 0 ≤ s by have := f1.1; omega)
  have hσ : σ ≤ 9000 := by have := f1.2; omega
  have hσ8 : (8 : Int) ≤ (σ : Int) := f1.1
  rw [hX, hY] at f2
  have F2 := Lib.hid f2
  rw [hY, Int.toNat_natCast] at f3
  have F3 := Lib.hid f3
  obtain ⟨p, hp⟩ : ∃ p, 4 * σ = p := ⟨_, rfl⟩
  have ep : (4 : Int) * (σ : Int) = (p : Int) := by omega
  obtain ⟨t64, ht64⟩ : ∃ t, p + 64 = t := ⟨_, rfl⟩
  have e64 : (p : Int) + 64 = (t64 : Int) := by omega
  obtain ⟨t80, ht80⟩ : ∃ t, σ + 80 = t := ⟨_, rfl⟩
  have e80 : (σ : Int) + 80 = (t80 : Int) := by omega
  have H64 : Hid (4 * σ + 64 = t64) := by show _ = _; omega
  have H80 := Lib.hid ht80
  have hp9 : p ≤ 36000 := by omega
  have h649 : t64 ≤ 36064 := by omega
  have h809 : t80 ≤ 9080 := by omega
  clear HLn HEx hT hA hB hs1 hs2 f1 f2 hX hY f3 hp ht64 ht80
  go_enter Tryd.func4, Tryd.ntmps4
  go_wp2_with fail
  refine H1.out.mono ?_
  rintro e w1 ⟨rfl, hB⟩
  replace HA : Hid (Lim w1 A n c xs) := HA.out.below hB
  replace HB : Hid (Lim w1 B m d ys) := HB.out.below hB
  replace HT : Hid (Tab w1) := HT.out.below hB
  replace HS := Lib.hid (HS.out.trans (hB.mono HS.out.size))
  clear hB H1
  have H2 := Lib.hid (HM.out A n c xs B m d ys (σ : Int) w1 HA.out HB.out hn hm HT.out Hsb.out.1 Hsb.out.2)
  clear HM HT Hsb
  go_wp2_with fail
  refine H2.out.mono ?_
  rintro e w2 ⟨Ap, mp, cp, zs, Aq, mq, cq, us, r, rfl, hmp, hmq, hlp, hlq, hB0, hq⟩
  replace HA : Hid (Lim w2 A n c xs) := HA.out.below hB0
  replace HB : Hid (Lim w2 B m d ys) := HB.out.below hB0
  replace HS := Lib.hid (HS.out.trans (hB0.mono HS.out.size))
  obtain ⟨rfl, hq1, hq2, hq3⟩ : r = 0 ∧ ExB (val xs) (val ys) σ (val zs) (val us) ∧ val zs ≤ val us ∧ (val xs = val ys → val us - val zs ≤ 4 * σ + 64) := by
    rcases hq with ⟨_, h1, h2, h3, h4⟩ | ⟨h, _⟩
    · rw [Int.toNat_natCast] at h2 h4; exact ⟨h1, h2, h3, h4⟩
    · exact absurd ok h
  rw [HX.out, HY.out] at hq1 hq3
  have HQ := Lib.hid hq1
  have HO := Lib.hid hq2
  have HD := Lib.hid hq3
  have HP : Hid (Lim w2 Ap mp cp zs) := hlp
  have HZ : Hid (Lim w2 Aq mq cq us) := hlq
  clear hq hq1 hq2 hq3 hlp hlq hB0 H2 ok
  have H3 := to_any A n c xs w2 HA.out (by omega)
  rw [HX.out] at H3
  replace H3 := Lib.hid H3
  go_wp2_with fail
  refine H3.out.mono ?_
  rintro e w3 ⟨A3, m3, c3, d3, rfl, hm3, hl3, hb3, hv3, hB⟩
  replace HA : Hid (Lim w3 A n c xs) := HA.out.below hB
  replace HB : Hid (Lim w3 B m d ys) := HB.out.below hB
  replace HP : Hid (Lim w3 Ap mp cp zs) := HP.out.below hB
  replace HZ : Hid (Lim w3 Aq mq cq us) := HZ.out.below hB
  replace HS := Lib.hid (HS.out.trans (hB.mono HS.out.size))
  have HU : Hid (Dig w3 A3 m3 c3 d3 ∧ D.Bare d3 ∧ D.val d3 = X) := ⟨hl3, hb3, hv3⟩
  clear hl3 hb3 hv3 hB H3
  have H4 := to_any B m d ys w3 HB.out (by omega)
  rw [HY.out] at H4
  replace H4 := Lib.hid H4
  go_wp2_with fail
  refine H4.out.mono ?_
  rintro e w4 ⟨A4, m4, c4, d4, rfl, hm4, hl4, hb4, hv4, hB⟩
  replace HA : Hid (Lim w4 A n c xs) := HA.out.below hB
  replace HB : Hid (Lim w4 B m d ys) := HB.out.below hB
  replace HP : Hid (Lim w4 Ap mp cp zs) := HP.out.below hB
  replace HZ : Hid (Lim w4 Aq mq cq us) := HZ.out.below hB
  replace HU : Hid (Dig w4 A3 m3 c3 d3 ∧ D.Bare d3 ∧ D.val d3 = X) := ⟨HU.out.1.below hB, HU.out.2⟩
  replace HS := Lib.hid (HS.out.trans (hB.mono HS.out.size))
  have HV : Hid (Dig w4 A4 m4 c4 d4 ∧ D.Bare d4 ∧ D.val d4 = Y) := ⟨hl4, hb4, hv4⟩
  clear hl4 hb4 hv4 hB H4
  have H5 := Lib.hid (HR.out w4 Hr.out)
  go_wp2_with fail
  refine H5.out.mono ?_
  rintro e w' ⟨rfl, rfl⟩
  clear H5 HR Hr
  obtain ⟨cv, hcv⟩ : ∃ cv, cmpZ X Y = cv := ⟨_, rfl⟩
  have b1 : decide (0 < cv) = false := decide_eq_false (by rw [← hcv]; have := cmpZ_down (show X ≤ Y by have := F2.out; omega); omega)
  have H6 := Lib.hid (rcmp_v cv A3 m3 c3 d3 A4 m4 c4 d4 w4 HU.out.1 HV.out.1 HU.out.2.1 HV.out.2.1 (by omega) (by omega) (by show _ = _; rw [HU.out.2.2, HV.out.2.2]; exact hcv))
  clear hcv
  go_wp2_with fail
  refine H6.out.mono ?_
  rintro e w5 ⟨rfl, hB⟩
  replace HA : Hid (Lim w5 A n c xs) := HA.out.below hB
  replace HB : Hid (Lim w5 B m d ys) := HB.out.below hB
  replace HP : Hid (Lim w5 Ap mp cp zs) := HP.out.below hB
  replace HZ : Hid (Lim w5 Aq mq cq us) := HZ.out.below hB
  replace HU : Hid (Dig w5 A3 m3 c3 d3 ∧ D.Bare d3 ∧ D.val d3 = X) := ⟨HU.out.1.below hB, HU.out.2⟩
  replace HV : Hid (Dig w5 A4 m4 c4 d4 ∧ D.Bare d4 ∧ D.val d4 = Y) := ⟨HV.out.1.below hB, HV.out.2⟩
  replace HS := Lib.hid (HS.out.trans (hB.mono HS.out.size))
  clear hB H6
  have H7 := Lib.hid (num_any 1 (by decide) w5)
  go_wp2_with fail
  refine H7.out.mono ?_
  rintro e w6 ⟨A6, m6, c6, d6, rfl, hm6, hl6, hb6, hv6, hB⟩
  replace HA : Hid (Lim w6 A n c xs) := HA.out.below hB
  replace HB : Hid (Lim w6 B m d ys) := HB.out.below hB
  replace HP : Hid (Lim w6 Ap mp cp zs) := HP.out.below hB
  replace HZ : Hid (Lim w6 Aq mq cq us) := HZ.out.below hB
  replace HU : Hid (Dig w6 A3 m3 c3 d3 ∧ D.Bare d3 ∧ D.val d3 = X) := ⟨HU.out.1.below hB, HU.out.2⟩
  replace HV : Hid (Dig w6 A4 m4 c4 d4 ∧ D.Bare d4 ∧ D.val d4 = Y) := ⟨HV.out.1.below hB, HV.out.2⟩
  replace HS := Lib.hid (HS.out.trans (hB.mono HS.out.size))
  have H1n : Hid (Dig w6 A6 m6 c6 d6 ∧ D.Bare d6 ∧ D.val d6 = 1) := ⟨hl6, hb6, hv6⟩
  clear hl6 hb6 hv6 hB H7
  have H8 := rshl_any A6 m6 c6 d6 σ w6 H1n.out.1 H1n.out.2.1 (by omega) (by omega)
  rw [H1n.out.2.2, Nat.one_mul] at H8
  obtain ⟨T, hT⟩ : ∃ T, 2 ^ σ = T := ⟨_, rfl⟩
  rw [hT] at H8
  have HTe := Lib.hid hT
  replace H8 := Lib.hid H8
  clear hT
  clear H1n
  go_wp2_with fail
  refine H8.out.mono ?_
  rintro e w7 ⟨A7, m7, c7, d7, rfl, hm7, hl7, hb7, hv7, hB⟩
  replace HA : Hid (Lim w7 A n c xs) := HA.out.below hB
  replace HB : Hid (Lim w7 B m d ys) := HB.out.below hB
  replace HP : Hid (Lim w7 Ap mp cp zs) := HP.out.below hB
  replace HZ : Hid (Lim w7 Aq mq cq us) := HZ.out.below hB
  replace HU : Hid (Dig w7 A3 m3 c3 d3 ∧ D.Bare d3 ∧ D.val d3 = X) := ⟨HU.out.1.below hB, HU.out.2⟩
  replace HV : Hid (Dig w7 A4 m4 c4 d4 ∧ D.Bare d4 ∧ D.val d4 = Y) := ⟨HV.out.1.below hB, HV.out.2⟩
  replace HS := Lib.hid (HS.out.trans (hB.mono HS.out.size))
  have HO1 : Hid (Dig w7 A7 m7 c7 d7 ∧ D.Bare d7 ∧ D.val d7 = T) := ⟨hl7, hb7, hv7⟩
  clear hl7 hb7 hv7 hB H8
  obtain ⟨ct, hct⟩ : ∃ cv, cmpZ Y T = cv := ⟨_, rfl⟩
  have b2 : decide (0 < ct) = false := decide_eq_false (by rw [← hct]; have := cmpZ_down (show Y ≤ T by rw [← HTe.out]; exact F3.out); omega)
  have H9 := Lib.hid (rcmp_v ct A4 m4 c4 d4 A7 m7 c7 d7 w7 HV.out.1 HO1.out.1 HV.out.2.1 HO1.out.2.1 (by omega) (by omega) (by show _ = _; rw [HV.out.2.2, HO1.out.2.2]; exact hct))
  clear hct
  clear HO1
  go_wp2_with fail
  refine H9.out.mono ?_
  rintro e w8 ⟨rfl, hB⟩
  replace HA : Hid (Lim w8 A n c xs) := HA.out.below hB
  replace HB : Hid (Lim w8 B m d ys) := HB.out.below hB
  replace HP : Hid (Lim w8 Ap mp cp zs) := HP.out.below hB
  replace HZ : Hid (Lim w8 Aq mq cq us) := HZ.out.below hB
  replace HU : Hid (Dig w8 A3 m3 c3 d3 ∧ D.Bare d3 ∧ D.val d3 = X) := ⟨HU.out.1.below hB, HU.out.2⟩
  replace HV : Hid (Dig w8 A4 m4 c4 d4 ∧ D.Bare d4 ∧ D.val d4 = Y) := ⟨HV.out.1.below hB, HV.out.2⟩
  replace HS := Lib.hid (HS.out.trans (hB.mono HS.out.size))
  clear hB H9
  obtain ⟨ch, hch⟩ : ∃ cv, cmpZ (val zs) (val us) = cv := ⟨_, rfl⟩
  have b3 : decide (0 < ch) = false := decide_eq_false (by rw [← hch]; have := cmpZ_down HO.out; omega)
  have H10 := Lib.hid (cmp_b ch Ap mp cp zs Aq mq cq us w8 HP.out HZ.out (by omega) (by omega) hch)
  clear hch
  go_wp2_with fail
  refine H10.out.mono ?_
  rintro e w9 ⟨rfl, hB⟩
  replace HA : Hid (Lim w9 A n c xs) := HA.out.below hB
  replace HB : Hid (Lim w9 B m d ys) := HB.out.below hB
  replace HP : Hid (Lim w9 Ap mp cp zs) := HP.out.below hB
  replace HZ : Hid (Lim w9 Aq mq cq us) := HZ.out.below hB
  replace HU : Hid (Dig w9 A3 m3 c3 d3 ∧ D.Bare d3 ∧ D.val d3 = X) := ⟨HU.out.1.below hB, HU.out.2⟩
  replace HV : Hid (Dig w9 A4 m4 c4 d4 ∧ D.Bare d4 ∧ D.val d4 = Y) := ⟨HV.out.1.below hB, HV.out.2⟩
  replace HS := Lib.hid (HS.out.trans (hB.mono HS.out.size))
  clear hB H10
  obtain ⟨ce, hce⟩ : ∃ cv, cmpZ X Y = cv := ⟨_, rfl⟩
  have b4 : (ce == 0) = false := beq_no (by rw [← hce, cmpZ_lt F2.out]; decide)
  have H11 := Lib.hid (cmp_b ce A n c xs B m d ys w9 HA.out HB.out (by omega) (by omega) (by show _ = _; rw [HX.out, HY.out]; exact hce))
  clear hce
  go_wp2_with fail
  refine H11.out.mono ?_
  rintro e w10 ⟨rfl, hB⟩
  replace HA : Hid (Lim w10 A n c xs) := HA.out.below hB
  replace HB : Hid (Lim w10 B m d ys) := HB.out.below hB
  replace HP : Hid (Lim w10 Ap mp cp zs) := HP.out.below hB
  replace HZ : Hid (Lim w10 Aq mq cq us) := HZ.out.below hB
  replace HU : Hid (Dig w10 A3 m3 c3 d3 ∧ D.Bare d3 ∧ D.val d3 = X) := ⟨HU.out.1.below hB, HU.out.2⟩
  replace HV : Hid (Dig w10 A4 m4 c4 d4 ∧ D.Bare d4 ∧ D.val d4 = Y) := ⟨HV.out.1.below hB, HV.out.2⟩
  replace HS := Lib.hid (HS.out.trans (hB.mono HS.out.size))
  clear hB H11
  clear HA HB
  by_cases h400 : 400 < σ
  · have b10 : decide (400 < σ) = true := decide_eq_true h400
    have b11 : decide ((400 : Int) < (σ : Int)) = true := decide_eq_true (by omega)
    clear h400
    have Hfin := Lib.hid HS.out
    clear HS HP HZ HU HV HQ HD HO
    go_wp2
    go_ret
    exact ⟨rfl, Hfin.out⟩
  · have b10 : decide (400 < σ) = false := decide_eq_false h400
    have b11 : decide ((400 : Int) < (σ : Int)) = false := decide_eq_false (by omega)
    have ht80 : t80 ≤ 480 := by have := H80.out; omega
    have HF : Hid (X ≤ 2 ^ σ ∧ Y ≤ 2 ^ σ) := ⟨Nat.le_trans (by have := F2.out; omega) F3.out, F3.out⟩
    obtain ⟨T80, hT80⟩ : ∃ T, 2 ^ 80 = T := ⟨_, rfl⟩
    have HT8 := Lib.hid hT80
    have hpw : ∀ Z, Z ≤ 2 ^ σ → Z * T80 ≤ 2 ^ t80 := fun Z hZ => by rw [← H80.out, Nat.pow_add, hT80]; exact Nat.mul_le_mul_right _ hZ
    have HPW := Lib.hid hpw
    clear hT80 hpw h400
    have H13 := rshl_any A3 m3 c3 d3 80 w10 HU.out.1 HU.out.2.1 (by omega) (by decide)
    rw [HU.out.2.2, HT8.out] at H13
    replace H13 := Lib.hid H13
    clear HU
    go_wp2_with fail
    refine H13.out.mono ?_
    rintro e w11 ⟨A11, m11, c11, d11, rfl, hm11, hl11, hb11, hv11, hB⟩
    replace HP : Hid (Lim w11 Ap mp cp zs) := HP.out.below hB
    replace HZ : Hid (Lim w11 Aq mq cq us) := HZ.out.below hB
    replace HV : Hid (Dig w11 A4 m4 c4 d4 ∧ D.Bare d4 ∧ D.val d4 = Y) := ⟨HV.out.1.below hB, HV.out.2⟩
    replace HS := Lib.hid (HS.out.trans (hB.mono HS.out.size))
    have HU8 : Hid (Dig w11 A11 m11 c11 d11 ∧ D.Bare d11 ∧ D.val d11 = X * T80) := ⟨hl11, hb11, hv11⟩
    clear hl11 hb11 hv11 hB H13
    have hlen11 : m11 ≤ 300 := dlen_le HU8.out.1 HU8.out.2.1 HU8.out.2.2 (k := t80 + 1) (by have := HPW.out X HF.out.1; rw [Nat.pow_succ]; have := Nat.two_pow_pos t80; omega) (by omega)
    have H14 := rexp_l t80 A11 m11 c11 d11 w11 HU8.out.1 HU8.out.2.1 hlen11 (by omega) (by rw [HU8.out.2.2]; exact HPW.out X HF.out.1)
    rw [HU8.out.2.2] at H14
    replace H14 := Lib.hid H14
    clear HU8
    go_wp2_with fail
    refine H14.out.mono ?_
    rintro e w12 ⟨KX, hKX, A12, m12, c12, d12, rfl, hm12, hl12, hb12, hv12, hB⟩
    replace HP : Hid (Lim w12 Ap mp cp zs) := HP.out.below hB
    replace HZ : Hid (Lim w12 Aq mq cq us) := HZ.out.below hB
    replace HV : Hid (Dig w12 A4 m4 c4 d4 ∧ D.Bare d4 ∧ D.val d4 = Y) := ⟨HV.out.1.below hB, HV.out.2⟩
    replace HS := Lib.hid (HS.out.trans (hB.mono HS.out.size))
    obtain ⟨EX, hEX⟩ : ∃ E, de (2 ^ t80) (X * T80) KX 1 = E := ⟨_, rfl⟩
    rw [hEX] at hv12
    have HLo : Hid (val zs * T80 ≤ EX + 1048576) := by
      have h := ex_low (s := σ) (K := KX) HF.out.1 (by rw [H80.out]; exact hKX) HQ.out.1
      rw [H80.out, HT8.out, hEX] at h
      exact h
    have HEX : Hid (Dig w12 A12 m12 c12 d12 ∧ D.Bare d12 ∧ D.val d12 = EX) := ⟨hl12, hb12, hv12⟩
    clear hl12 hb12 hv12 hB H14 hKX hEX
    have H13 := rshl_any A4 m4 c4 d4 80 w12 HV.out.1 HV.out.2.1 (by omega) (by decide)
    rw [HV.out.2.2, HT8.out] at H13
    replace H13 := Lib.hid H13
    clear HV
    go_wp2_with fail
    refine H13.out.mono ?_
    rintro e w13 ⟨A13, m13, c13, d13, rfl, hm13, hl13, hb13, hv13, hB⟩
    replace HP : Hid (Lim w13 Ap mp cp zs) := HP.out.below hB
    replace HZ : Hid (Lim w13 Aq mq cq us) := HZ.out.below hB
    replace HEX : Hid (Dig w13 A12 m12 c12 d12 ∧ D.Bare d12 ∧ D.val d12 = EX) := ⟨HEX.out.1.below hB, HEX.out.2⟩
    replace HS := Lib.hid (HS.out.trans (hB.mono HS.out.size))
    have HV8 : Hid (Dig w13 A13 m13 c13 d13 ∧ D.Bare d13 ∧ D.val d13 = Y * T80) := ⟨hl13, hb13, hv13⟩
    clear hl13 hb13 hv13 hB H13
    have hlen13 : m13 ≤ 300 := dlen_le HV8.out.1 HV8.out.2.1 HV8.out.2.2 (k := t80 + 1) (by have := HPW.out Y HF.out.2; rw [Nat.pow_succ]; have := Nat.two_pow_pos t80; omega) (by omega)
    have H14 := rexp_l t80 A13 m13 c13 d13 w13 HV8.out.1 HV8.out.2.1 hlen13 (by omega) (by rw [HV8.out.2.2]; exact HPW.out Y HF.out.2)
    rw [HV8.out.2.2] at H14
    replace H14 := Lib.hid H14
    clear HV8
    go_wp2_with fail
    refine H14.out.mono ?_
    rintro e w14 ⟨KY, hKY, A14, m14, c14, d14, rfl, hm14, hl14, hb14, hv14, hB⟩
    replace HP : Hid (Lim w14 Ap mp cp zs) := HP.out.below hB
    replace HZ : Hid (Lim w14 Aq mq cq us) := HZ.out.below hB
    replace HEX : Hid (Dig w14 A12 m12 c12 d12 ∧ D.Bare d12 ∧ D.val d12 = EX) := ⟨HEX.out.1.below hB, HEX.out.2⟩
    replace HS := Lib.hid (HS.out.trans (hB.mono HS.out.size))
    obtain ⟨EY, hEY⟩ : ∃ E, de (2 ^ t80) (Y * T80) KY 1 = E := ⟨_, rfl⟩
    rw [hEY] at hv14
    have HHi : Hid (EY ≤ val us * T80) := by
      have h := ex_high (s := σ) (K := KY) HF.out.2 HQ.out.2
      rw [H80.out, HT8.out, hEY] at h
      exact h
    have HEY : Hid (Dig w14 A14 m14 c14 d14 ∧ D.Bare d14 ∧ D.val d14 = EY) := ⟨hl14, hb14, hv14⟩
    clear hl14 hb14 hv14 hB H14 hKY hEY
    have H15 := Lib.hid (to_any Ap mp cp zs w14 HP.out (by omega))
    clear HP
    go_wp2_with fail
    refine H15.out.mono ?_
    rintro e w15 ⟨A15, m15, c15, d15, rfl, hm15, hl15, hb15, hv15, hB⟩
    replace HZ : Hid (Lim w15 Aq mq cq us) := HZ.out.below hB
    replace HEX : Hid (Dig w15 A12 m12 c12 d12 ∧ D.Bare d12 ∧ D.val d12 = EX) := ⟨HEX.out.1.below hB, HEX.out.2⟩
    replace HEY : Hid (Dig w15 A14 m14 c14 d14 ∧ D.Bare d14 ∧ D.val d14 = EY) := ⟨HEY.out.1.below hB, HEY.out.2⟩
    replace HS := Lib.hid (HS.out.trans (hB.mono HS.out.size))
    have Hto : Hid (Dig w15 A15 m15 c15 d15 ∧ D.Bare d15 ∧ D.val d15 = val zs) := ⟨hl15, hb15, hv15⟩
    clear hl15 hb15 hv15 hB H15
    have H16 := rshl_any A15 m15 c15 d15 80 w15 Hto.out.1 Hto.out.2.1 (by omega) (by decide)
    rw [Hto.out.2.2, HT8.out] at H16
    replace H16 := Lib.hid H16
    clear Hto
    go_wp2_with fail
    refine H16.out.mono ?_
    rintro e w16 ⟨A16, m16, c16, d16, rfl, hm16, hl16, hb16, hv16, hB⟩
    replace HZ : Hid (Lim w16 Aq mq cq us) := HZ.out.below hB
    replace HEX : Hid (Dig w16 A12 m12 c12 d12 ∧ D.Bare d12 ∧ D.val d12 = EX) := ⟨HEX.out.1.below hB, HEX.out.2⟩
    replace HEY : Hid (Dig w16 A14 m14 c14 d14 ∧ D.Bare d14 ∧ D.val d14 = EY) := ⟨HEY.out.1.below hB, HEY.out.2⟩
    replace HS := Lib.hid (HS.out.trans (hB.mono HS.out.size))
    have HC : Hid (Dig w16 A16 m16 c16 d16 ∧ D.Bare d16 ∧ D.val d16 = val zs * T80) := ⟨hl16, hb16, hv16⟩
    clear hl16 hb16 hv16 hB H16
    have H15 := Lib.hid (to_any Aq mq cq us w16 HZ.out (by omega))
    clear HZ
    go_wp2_with fail
    refine H15.out.mono ?_
    rintro e w17 ⟨A17, m17, c17, d17, rfl, hm17, hl17, hb17, hv17, hB⟩
    replace HEX : Hid (Dig w17 A12 m12 c12 d12 ∧ D.Bare d12 ∧ D.val d12 = EX) := ⟨HEX.out.1.below hB, HEX.out.2⟩
    replace HEY : Hid (Dig w17 A14 m14 c14 d14 ∧ D.Bare d14 ∧ D.val d14 = EY) := ⟨HEY.out.1.below hB, HEY.out.2⟩
    replace HC : Hid (Dig w17 A16 m16 c16 d16 ∧ D.Bare d16 ∧ D.val d16 = val zs * T80) := ⟨HC.out.1.below hB, HC.out.2⟩
    replace HS := Lib.hid (HS.out.trans (hB.mono HS.out.size))
    have Hto : Hid (Dig w17 A17 m17 c17 d17 ∧ D.Bare d17 ∧ D.val d17 = val us) := ⟨hl17, hb17, hv17⟩
    clear hl17 hb17 hv17 hB H15
    have H16 := rshl_any A17 m17 c17 d17 80 w17 Hto.out.1 Hto.out.2.1 (by omega) (by decide)
    rw [Hto.out.2.2, HT8.out] at H16
    replace H16 := Lib.hid H16
    clear Hto
    go_wp2_with fail
    refine H16.out.mono ?_
    rintro e w18 ⟨A18, m18, c18, d18, rfl, hm18, hl18, hb18, hv18, hB⟩
    replace HEX : Hid (Dig w18 A12 m12 c12 d12 ∧ D.Bare d12 ∧ D.val d12 = EX) := ⟨HEX.out.1.below hB, HEX.out.2⟩
    replace HEY : Hid (Dig w18 A14 m14 c14 d14 ∧ D.Bare d14 ∧ D.val d14 = EY) := ⟨HEY.out.1.below hB, HEY.out.2⟩
    replace HC : Hid (Dig w18 A16 m16 c16 d16 ∧ D.Bare d16 ∧ D.val d16 = val zs * T80) := ⟨HC.out.1.below hB, HC.out.2⟩
    replace HS := Lib.hid (HS.out.trans (hB.mono HS.out.size))
    have HDd : Hid (Dig w18 A18 m18 c18 d18 ∧ D.Bare d18 ∧ D.val d18 = val us * T80) := ⟨hl18, hb18, hv18⟩
    clear hl18 hb18 hv18 hB H16
    have H17 := Lib.hid (rwide_l w18)
    go_wp2_with fail
    refine H17.out.mono ?_
    rintro e w19 ⟨A19, m19, c19, d19, rfl, hm19, hl19, hb19, hv19, hB⟩
    replace HEX : Hid (Dig w19 A12 m12 c12 d12 ∧ D.Bare d12 ∧ D.val d12 = EX) := ⟨HEX.out.1.below hB, HEX.out.2⟩
    replace HEY : Hid (Dig w19 A14 m14 c14 d14 ∧ D.Bare d14 ∧ D.val d14 = EY) := ⟨HEY.out.1.below hB, HEY.out.2⟩
    replace HC : Hid (Dig w19 A16 m16 c16 d16 ∧ D.Bare d16 ∧ D.val d16 = val zs * T80) := ⟨HC.out.1.below hB, HC.out.2⟩
    replace HDd : Hid (Dig w19 A18 m18 c18 d18 ∧ D.Bare d18 ∧ D.val d18 = val us * T80) := ⟨HDd.out.1.below hB, HDd.out.2⟩
    replace HS := Lib.hid (HS.out.trans (hB.mono HS.out.size))
    have HWd : Hid (Dig w19 A19 m19 c19 d19 ∧ D.Bare d19 ∧ D.val d19 = 1048576) := ⟨hl19, hb19, hv19⟩
    clear hl19 hb19 hv19 hB H17
    have H18 := radd_any A12 m12 c12 d12 A19 m19 c19 d19 w19 HEX.out.1 HWd.out.1 HEX.out.2.1 HWd.out.2.1 (by omega) (by omega)
    rw [HEX.out.2.2, HWd.out.2.2] at H18
    replace H18 := Lib.hid H18
    clear HEX HWd
    go_wp2_with fail
    refine H18.out.mono ?_
    rintro e w20 ⟨A20, m20, c20, d20, rfl, hm20, hl20, hb20, hv20, hB⟩
    replace HEY : Hid (Dig w20 A14 m14 c14 d14 ∧ D.Bare d14 ∧ D.val d14 = EY) := ⟨HEY.out.1.below hB, HEY.out.2⟩
    replace HC : Hid (Dig w20 A16 m16 c16 d16 ∧ D.Bare d16 ∧ D.val d16 = val zs * T80) := ⟨HC.out.1.below hB, HC.out.2⟩
    replace HDd : Hid (Dig w20 A18 m18 c18 d18 ∧ D.Bare d18 ∧ D.val d18 = val us * T80) := ⟨HDd.out.1.below hB, HDd.out.2⟩
    replace HS := Lib.hid (HS.out.trans (hB.mono HS.out.size))
    have HSu : Hid (Dig w20 A20 m20 c20 d20 ∧ D.Bare d20 ∧ D.val d20 = EX + 1048576) := ⟨hl20, hb20, hv20⟩
    clear hl20 hb20 hv20 hB H18
    obtain ⟨ca, hca⟩ : ∃ cv, cmpZ (val zs * T80) (EX + 1048576) = cv := ⟨_, rfl⟩
    have b5 : decide (ca ≤ 0) = true := decide_eq_true (by rw [← hca]; exact cmpZ_down HLo.out)
    have H19 := Lib.hid (rcmp_v ca A16 m16 c16 d16 A20 m20 c20 d20 w20 HC.out.1 HSu.out.1 HC.out.2.1 HSu.out.2.1 (by omega) (by omega) (by show _ = _; rw [HC.out.2.2, HSu.out.2.2]; exact hca))
    clear hca
    clear HC HSu
    go_wp2_with fail
    refine H19.out.mono ?_
    rintro e w21 ⟨rfl, hB⟩
    replace HEY : Hid (Dig w21 A14 m14 c14 d14 ∧ D.Bare d14 ∧ D.val d14 = EY) := ⟨HEY.out.1.below hB, HEY.out.2⟩
    replace HDd : Hid (Dig w21 A18 m18 c18 d18 ∧ D.Bare d18 ∧ D.val d18 = val us * T80) := ⟨HDd.out.1.below hB, HDd.out.2⟩
    replace HS := Lib.hid (HS.out.trans (hB.mono HS.out.size))
    clear hB H19
    obtain ⟨cb, hcb⟩ : ∃ cv, cmpZ EY (val us * T80) = cv := ⟨_, rfl⟩
    have b6 : decide (cb ≤ 0) = true := decide_eq_true (by rw [← hcb]; exact cmpZ_down HHi.out)
    have H20 := Lib.hid (rcmp_v cb A14 m14 c14 d14 A18 m18 c18 d18 w21 HEY.out.1 HDd.out.1 HEY.out.2.1 HDd.out.2.1 (by omega) (by omega) (by show _ = _; rw [HEY.out.2.2, HDd.out.2.2]; exact hcb))
    clear hcb
    clear HEY HDd
    go_wp2_with fail
    refine H20.out.mono ?_
    rintro e w22 ⟨rfl, hB⟩
    replace HS := Lib.hid (HS.out.trans (hB.mono HS.out.size))
    clear hB H20
    have Hfin := Lib.hid HS.out
    clear HS  HQ HD HO HF HPW HT8 HLo HHi
    go_wp2
    go_ret
    exact ⟨rfl, Hfin.out⟩

theorem walk_seriesExp' (HEx : ExpMeets) (HLn : Ln2Meets) (A : Option Addr) (n c : Nat) (xs : List Nat) (B : Option Addr) (m d : Nat) (ys : List Nat) (s : Int) (w : World) (hT : Tab w) (hA : Lim w A n c xs) (hB : Lim w B m d ys) (hs1 : -9223372036854775808 ≤ s) (hs2 : s ≤ 9223372036854775807) :
    Calls Tryd.prog 4 #[.slice A n c, .slice B m d, .int .i64 s] w fun e w' => e = .returned (.bool true) ∧ Below w.heap.size w w' := by
  by_cases h : 150 < n ∨ 150 < m
  · exact sexp_skip HLn A n c B m d s w hT h
  have hn : n ≤ 150 := by omega
  have hm : m ≤ 150 := by omega
  by_cases f1 : 8 ≤ s ∧ s ≤ 9000
  · rcases Nat.lt_or_ge (val ys) (val xs) with f2 | f2
    · exact sexp_G HEx HLn A n c xs B m d ys s w hT hA hB hn hm hs1 hs2 f1 f2
    · rcases Nat.lt_or_ge (2 ^ s.toNat) (val ys) with f3 | f3
      · exact sexp_B HEx HLn A n c xs B m d ys s w hT hA hB hn hm hs1 hs2 f1 f2 f3
      · rcases Nat.lt_or_eq_of_le f2 with f4 | f4
        · exact sexp_lt HEx HLn A n c xs B m d ys s w hT hA hB hn hm hs1 hs2 f1 f4 f3
        · exact sexp_eq HEx HLn A n c xs B m d ys s w hT hA hB hn hm hs1 hs2 f1 f4 f3
  · exact sexp_R HEx HLn A n c xs B m d ys s w hT hA hB hn hm hs1 hs2 f1
end Go.Proofs.YtngldpmnbdgkiaaDoor
