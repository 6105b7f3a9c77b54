/- The walk of the law SeriesAtanh (written by law_satanh.py). -/
import Derived.Test.YtngldpmnbdgkiaaDoorSrAlive
import Derived.Test.YtngldpmnbdgkiaaDoorSrHold
namespace Go.Proofs.YtngldpmnbdgkiaaDoor
open Go.RowKit

set_option maxHeartbeats 1000000 in
/-- What isn't looked at. -/
theorem satanh_skip (HLn : Ln2Meets) (A : Option Addr) (n c : Nat) (B : Option Addr) (m d : Nat) (s : Int) (w : World) (hT : Tab w) (h : 70 < n ∨ 70 < m ∨ (6 < n ∧ 100 < s)) :
    Calls Tryd.prog 3 #[.slice A n c, .slice B m d, .int .i64 s] w fun e w' => e = .returned (.bool true) ∧ Below w.heap.size w w' := by
  have H1 := Lib.hid (salive_any HLn w hT)
  clear HLn hT
  by_cases q1 : 70 < n
  · have t1 : decide ((70 : Int) < (n : Int)) = true := decide_eq_true (by omega)
    have t1n : decide (70 < n) = true := decide_eq_true (by omega)
    clear h q1
    go_enter Tryd.func3, Tryd.ntmps3
    go_wp2_with fail
    refine H1.out.mono ?_
    rintro e w1 ⟨rfl, hB1⟩
    have Hfin := Lib.hid hB1
    clear hB1 H1
    go_wp2
    go_ret
    exact ⟨rfl, Hfin.out⟩
  by_cases q2 : 70 < m
  · have t1 : decide ((70 : Int) < (n : Int)) = false := decide_eq_false (by omega)
    have t1n : decide (70 < n) = false := decide_eq_false (by omega)
    have t2 : decide ((70 : Int) < (m : Int)) = true := decide_eq_true (by omega)
    have t2n : decide (70 < m) = true := decide_eq_true (by omega)
    clear h q1 q2
    go_enter Tryd.func3, Tryd.ntmps3
    go_wp2_with fail
    refine H1.out.mono ?_
    rintro e w1 ⟨rfl, hB1⟩
    have Hfin := Lib.hid hB1
    clear hB1 H1
    go_wp2
    go_ret
    exact ⟨rfl, Hfin.out⟩
  · have t1 : decide ((70 : Int) < (n : Int)) = false := decide_eq_false (by omega)
    have t1n : decide (70 < n) = false := decide_eq_false (by omega)
    have t2 : decide ((70 : Int) < (m : Int)) = false := decide_eq_false (by omega)
    have t2n : decide (70 < m) = false := decide_eq_false (by omega)
    have t3 : decide ((6 : Int) < (n : Int)) = true := decide_eq_true (by omega)
    have t3n : decide (6 < n) = true := decide_eq_true (by omega)
    have t4 : decide ((100 : Int) < s) = true := decide_eq_true (by omega)
    clear h q1 q2
    go_enter Tryd.func3, Tryd.ntmps3
    go_wp2_with fail
    refine H1.out.mono ?_
    rintro e w1 ⟨rfl, hB1⟩
    have Hfin := Lib.hid hB1
    clear hB1 H1
    go_wp2
    go_ret
    exact ⟨rfl, Hfin.out⟩

set_option maxHeartbeats 2000000 in
set_option maxRecDepth 20000 in
theorem satanh_R (HAt : AtanhMeets) (HLn : Ln2Meets) (A : Option Addr) (n c : Nat) (xs : List Nat) (B : Option Addr) (m d : Nat) (ys : List Nat) (s : Int) (w : World) (hT : Tab w) (hA : Lim w A n c xs) (hB : Lim w B m d ys) (hn : n ≤ 70) (hm : m ≤ 70) (hg : n ≤ 6 ∨ s ≤ 100) (hs1 : -9223372036854775808 ≤ s) (hs2 : s ≤ 9223372036854775807) (f1 : ¬ (8 ≤ s ∧ s ≤ 9000)) :
    Calls Tryd.prog 3 #[.slice A n c, .slice B m d, .int .i64 s] w fun e w' => e = .returned (.bool true) ∧ Below w.heap.size w w' := by
  have no : ¬ AtOk (val xs) (val ys) s := fun h => f1 (h.1)
  have H1 := Lib.hid (salive_any HLn w hT)
  have HA := Lib.hid hA
  have HB := Lib.hid hB
  have HT := Lib.hid hT
  have HM := Lib.hid HAt
  obtain ⟨X, hX⟩ : ∃ X, val xs = X := ⟨_, rfl⟩
  obtain ⟨Y, hY⟩ : ∃ Y, val ys = Y := ⟨_, rfl⟩
  have HX := Lib.hid hX
  have HY := Lib.hid hY
  have Hs : Hid (-9223372036854775808 ≤ s ∧ s ≤ 9223372036854775807) := ⟨hs1, hs2⟩
  have t1 : decide ((70 : Int) < (n : Int)) = false := decide_eq_false (by omega)
  have t1n : decide (70 < n) = false := decide_eq_false (by omega)
  have t2 : decide ((70 : Int) < (m : Int)) = false := decide_eq_false (by omega)
  have t2n : decide (70 < m) = false := decide_eq_false (by omega)
  obtain ⟨u3, hu3⟩ : ∃ u, decide (6 < n) = u := ⟨_, rfl⟩
  have t3 : decide ((6 : Int) < (n : Int)) = u3 := by rw [← hu3]; exact decide_eq_decide.2 (by omega)
  obtain ⟨u4, hu4⟩ : ∃ u, decide ((100 : Int) < s) = u := ⟨_, rfl⟩
  have hu : u3 = false ∨ (u3 = true ∧ u4 = false) := by
    rcases hg with h | h
    · exact Or.inl (by rw [← hu3]; exact decide_eq_false (by omega))
    · rw [← hu4, decide_eq_false (show ¬ (100 : Int) < s by omega)]
      cases u3
      · exact Or.inl rfl
      · exact Or.inr ⟨rfl, rfl⟩
  have HR := Lib.hid (right_l s false)
  have Hr : Hid (decide (8 ≤ s ∧ s ≤ 9000) = false) := decide_eq_false f1
  clear HLn HAt hT hA hB hX hY hs1 hs2 hg hu3 f1
  go_enter Tryd.func3, Tryd.ntmps3
  go_wp2_with fail
  refine H1.out.mono ?_
  rintro e w1 ⟨rfl, hB1⟩
  have HS := Lib.hid hB1
  replace HT := Lib.hid (HT.out.below hB1)
  replace HA := Lib.hid (HA.out.below hB1)
  replace HB := Lib.hid (HB.out.below hB1)
  have H2 := Lib.hid (HM.out A n c xs B m d ys s w1 HA.out HB.out hn hm HT.out Hs.out.1 Hs.out.2)
  clear hB1 H1 HM Hs
  rcases hu with rfl | ⟨rfl, rfl⟩
  · go_wp2_with fail
    refine H2.out.mono ?_
    rintro e w2 ⟨A1, m1, c1, zs, A2, m2, c2, us, r, rfl, hm1, hm2, hl1, hl2, hB2, hq⟩
    obtain ⟨rfl, rfl, rfl⟩ : r = 1 ∧ m1 = 0 ∧ m2 = 0 := by
      rcases hq with ⟨h, _⟩ | ⟨_, h1, h2, h3⟩
      · exact absurd h no
      · exact ⟨h1, h2, h3⟩
    clear hq
    replace HA := Lib.hid (HA.out.below hB2)
    replace HB := Lib.hid (HB.out.below hB2)
    replace HS := Lib.hid (HS.out.trans (hB2.mono HS.out.size))
    have H3 := to_any A n c xs w2 HA.out (by omega)
    rw [HX.out] at H3
    replace H3 := Lib.hid H3
    clear hl1 hl2 H2 hm1 hm2 hB2
    go_wp2_with fail
    refine H3.out.mono ?_
    rintro e w3 ⟨A5, m5, c5, es, rfl, hm5, hl5, hb5, hv5, hB3⟩
    have HU : Hid (Dig w3 A5 m5 c5 es ∧ D.Bare es ∧ D.val es = X) := ⟨hl5, hb5, hv5⟩
    replace HS := Lib.hid (HS.out.trans (hB3.mono HS.out.size))
    have H4 := to_any B m d ys w3 (HB.out.below hB3) (by omega)
    rw [HY.out] at H4
    replace H4 := Lib.hid H4
    clear hl5 hb5 hv5 hB3 H3 HA HB
    go_wp2_with fail
    refine H4.out.mono ?_
    rintro e w4 ⟨A6, m6, c6, fs, rfl, hm6, hl6, hb6, hv6, hB4⟩
    replace HU : Hid (Dig w4 A5 m5 c5 es ∧ D.Bare es ∧ D.val es = X) := ⟨HU.out.1.below hB4, HU.out.2⟩
    have HV : Hid (Dig w4 A6 m6 c6 fs ∧ D.Bare fs ∧ D.val fs = Y) := ⟨hl6, hb6, hv6⟩
    replace HS := Lib.hid (HS.out.trans (hB4.mono HS.out.size))
    have H5 := radd_any A5 m5 c5 es A5 m5 c5 es w4 HU.out.1 HU.out.1 HU.out.2.1 HU.out.2.1 (by omega) (by omega)
    rw [HU.out.2.2] at H5
    replace H5 := Lib.hid H5
    clear hl6 hb6 hv6 hB4 H4
    go_wp2_with fail
    refine H5.out.mono ?_
    rintro e w5 ⟨A7, m7, c7, gs, rfl, hm7, hl7, hb7, hv7, hB5⟩
    replace HU : Hid (Dig w5 A5 m5 c5 es ∧ D.Bare es ∧ D.val es = X) := ⟨HU.out.1.below hB5, HU.out.2⟩
    replace HV : Hid (Dig w5 A6 m6 c6 fs ∧ D.Bare fs ∧ D.val fs = Y) := ⟨HV.out.1.below hB5, HV.out.2⟩
    replace HS := Lib.hid (HS.out.trans (hB5.mono HS.out.size))
    have H6 := radd_any A5 m5 c5 es A7 m7 c7 gs w5 HU.out.1 hl7 HU.out.2.1 hb7 (by omega) (by omega)
    rw [HU.out.2.2, hv7] at H6
    replace H6 := Lib.hid H6
    clear hl7 hb7 hv7 hB5 H5
    go_wp2_with fail
    refine H6.out.mono ?_
    rintro e w6 ⟨A8, m8, c8, hs, rfl, hm8, hl8, hb8, hv8, hB6⟩
    replace HU : Hid (Dig w6 A5 m5 c5 es ∧ D.Bare es ∧ D.val es = X) := ⟨HU.out.1.below hB6, HU.out.2⟩
    replace HV : Hid (Dig w6 A6 m6 c6 fs ∧ D.Bare fs ∧ D.val fs = Y) := ⟨HV.out.1.below hB6, HV.out.2⟩
    have HW : Hid (Dig w6 A8 m8 c8 hs ∧ D.Bare hs ∧ D.val hs = X + (X + X)) := ⟨hl8, hb8, hv8⟩
    replace HS := Lib.hid (HS.out.trans (hB6.mono HS.out.size))
    have H7 := Lib.hid (HR.out w6 Hr.out)
    clear hl8 hb8 hv8 hB6 H6
    go_wp2_with fail
    refine H7.out.mono ?_
    rintro e w' ⟨rfl, rfl⟩
    have Hfin := Lib.hid HS.out
    clear HS HU HV HW H7
    go_wp2
    go_ret
    exact ⟨rfl, Hfin.out⟩
  · go_wp2_with fail
    refine H2.out.mono ?_
    rintro e w2 ⟨A1, m1, c1, zs, A2, m2, c2, us, r, rfl, hm1, hm2, hl1, hl2, hB2, hq⟩
    obtain ⟨rfl, rfl, rfl⟩ : r = 1 ∧ m1 = 0 ∧ m2 = 0 := by
      rcases hq with ⟨h, _⟩ | ⟨_, h1, h2, h3⟩
      · exact absurd h no
      · exact ⟨h1, h2, h3⟩
    clear hq
    replace HA := Lib.hid (HA.out.below hB2)
    replace HB := Lib.hid (HB.out.below hB2)
    replace HS := Lib.hid (HS.out.trans (hB2.mono HS.out.size))
    have H3 := to_any A n c xs w2 HA.out (by omega)
    rw [HX.out] at H3
    replace H3 := Lib.hid H3
    clear hl1 hl2 H2 hm1 hm2 hB2
    go_wp2_with fail
    refine H3.out.mono ?_
    rintro e w3 ⟨A5, m5, c5, es, rfl, hm5, hl5, hb5, hv5, hB3⟩
    have HU : Hid (Dig w3 A5 m5 c5 es ∧ D.Bare es ∧ D.val es = X) := ⟨hl5, hb5, hv5⟩
    replace HS := Lib.hid (HS.out.trans (hB3.mono HS.out.size))
    have H4 := to_any B m d ys w3 (HB.out.below hB3) (by omega)
    rw [HY.out] at H4
    replace H4 := Lib.hid H4
    clear hl5 hb5 hv5 hB3 H3 HA HB
    go_wp2_with fail
    refine H4.out.mono ?_
    rintro e w4 ⟨A6, m6, c6, fs, rfl, hm6, hl6, hb6, hv6, hB4⟩
    replace HU : Hid (Dig w4 A5 m5 c5 es ∧ D.Bare es ∧ D.val es = X) := ⟨HU.out.1.below hB4, HU.out.2⟩
    have HV : Hid (Dig w4 A6 m6 c6 fs ∧ D.Bare fs ∧ D.val fs = Y) := ⟨hl6, hb6, hv6⟩
    replace HS := Lib.hid (HS.out.trans (hB4.mono HS.out.size))
    have H5 := radd_any A5 m5 c5 es A5 m5 c5 es w4 HU.out.1 HU.out.1 HU.out.2.1 HU.out.2.1 (by omega) (by omega)
    rw [HU.out.2.2] at H5
    replace H5 := Lib.hid H5
    clear hl6 hb6 hv6 hB4 H4
    go_wp2_with fail
    refine H5.out.mono ?_
    rintro e w5 ⟨A7, m7, c7, gs, rfl, hm7, hl7, hb7, hv7, hB5⟩
    replace HU : Hid (Dig w5 A5 m5 c5 es ∧ D.Bare es ∧ D.val es = X) := ⟨HU.out.1.below hB5, HU.out.2⟩
    replace HV : Hid (Dig w5 A6 m6 c6 fs ∧ D.Bare fs ∧ D.val fs = Y) := ⟨HV.out.1.below hB5, HV.out.2⟩
    replace HS := Lib.hid (HS.out.trans (hB5.mono HS.out.size))
    have H6 := radd_any A5 m5 c5 es A7 m7 c7 gs w5 HU.out.1 hl7 HU.out.2.1 hb7 (by omega) (by omega)
    rw [HU.out.2.2, hv7] at H6
    replace H6 := Lib.hid H6
    clear hl7 hb7 hv7 hB5 H5
    go_wp2_with fail
    refine H6.out.mono ?_
    rintro e w6 ⟨A8, m8, c8, hs, rfl, hm8, hl8, hb8, hv8, hB6⟩
    replace HU : Hid (Dig w6 A5 m5 c5 es ∧ D.Bare es ∧ D.val es = X) := ⟨HU.out.1.below hB6, HU.out.2⟩
    replace HV : Hid (Dig w6 A6 m6 c6 fs ∧ D.Bare fs ∧ D.val fs = Y) := ⟨HV.out.1.below hB6, HV.out.2⟩
    have HW : Hid (Dig w6 A8 m8 c8 hs ∧ D.Bare hs ∧ D.val hs = X + (X + X)) := ⟨hl8, hb8, hv8⟩
    replace HS := Lib.hid (HS.out.trans (hB6.mono HS.out.size))
    have H7 := Lib.hid (HR.out w6 Hr.out)
    clear hl8 hb8 hv8 hB6 H6
    go_wp2_with fail
    refine H7.out.mono ?_
    rintro e w' ⟨rfl, rfl⟩
    have Hfin := Lib.hid HS.out
    clear HS HU HV HW H7
    go_wp2
    go_ret
    exact ⟨rfl, Hfin.out⟩

set_option maxHeartbeats 2000000 in
set_option maxRecDepth 20000 in
theorem satanh_X (HAt : AtanhMeets) (HLn : Ln2Meets) (A : Option Addr) (n c : Nat) (xs : List Nat) (B : Option Addr) (m d : Nat) (ys : List Nat) (s : Int) (w : World) (hT : Tab w) (hA : Lim w A n c xs) (hB : Lim w B m d ys) (hn : n ≤ 70) (hm : m ≤ 70) (hg : n ≤ 6 ∨ s ≤ 100) (hs1 : -9223372036854775808 ≤ s) (hs2 : s ≤ 9223372036854775807) (f1 : 8 ≤ s ∧ s ≤ 9000) (f2 : 4096 < blen (val xs)) :
    Calls Tryd.prog 3 #[.slice A n c, .slice B m d, .int .i64 s] w fun e w' => e = .returned (.bool true) ∧ Below w.heap.size w w' := by
  have no : ¬ AtOk (val xs) (val ys) s := fun h => (by have := h.2.1; omega)
  have H1 := Lib.hid (salive_any HLn w hT)
  have HA := Lib.hid hA
  have HB := Lib.hid hB
  have HT := Lib.hid hT
  have HM := Lib.hid HAt
  obtain ⟨X, hX⟩ : ∃ X, val xs = X := ⟨_, rfl⟩
  obtain ⟨Y, hY⟩ : ∃ Y, val ys = Y := ⟨_, rfl⟩
  have HX := Lib.hid hX
  have HY := Lib.hid hY
  have Hs : Hid (-9223372036854775808 ≤ s ∧ s ≤ 9223372036854775807) := ⟨hs1, hs2⟩
  have t1 : decide ((70 : Int) < (n : Int)) = false := decide_eq_false (by omega)
  have t1n : decide (70 < n) = false := decide_eq_false (by omega)
  have t2 : decide ((70 : Int) < (m : Int)) = false := decide_eq_false (by omega)
  have t2n : decide (70 < m) = false := decide_eq_false (by omega)
  obtain ⟨u3, hu3⟩ : ∃ u, decide (6 < n) = u := ⟨_, rfl⟩
  have t3 : decide ((6 : Int) < (n : Int)) = u3 := by rw [← hu3]; exact decide_eq_decide.2 (by omega)
  obtain ⟨u4, hu4⟩ : ∃ u, decide ((100 : Int) < s) = u := ⟨_, rfl⟩
  have hu : u3 = false ∨ (u3 = true ∧ u4 = false) := by
    rcases hg with h | h
    · exact Or.inl (by rw [← hu3]; exact decide_eq_false (by omega))
    · rw [← hu4, decide_eq_false (show ¬ (100 : Int) < s by omega)]
      cases u3
      · exact Or.inl rfl
      · exact Or.inr ⟨rfl, rfl⟩
  have HR := Lib.hid (right_l s true)
  have Hr : Hid (decide (8 ≤ s ∧ s ≤ 9000) = true) := decide_eq_true f1
  obtain ⟨bx, hbx⟩ : ∃ b, blen (val xs) = b := ⟨_, rfl⟩
  rw [hbx] at f2
  rw [hX] at hbx
  have Hbx := Lib.hid hbx
  have t5 : decide ((4096 : Int) < (bx : Int)) = true := decide_eq_true (by omega)
  have t5n : decide (4096 < bx) = true := decide_eq_true (by omega)
  clear HLn HAt hT hA hB hX hY hs1 hs2 hg hu3 hbx f2 f1
  go_enter Tryd.func3, Tryd.ntmps3
  go_wp2_with fail
  refine H1.out.mono ?_
  rintro e w1 ⟨rfl, hB1⟩
  have HS := Lib.hid hB1
  replace HT := Lib.hid (HT.out.below hB1)
  replace HA := Lib.hid (HA.out.below hB1)
  replace HB := Lib.hid (HB.out.below hB1)
  have H2 := Lib.hid (HM.out A n c xs B m d ys s w1 HA.out HB.out hn hm HT.out Hs.out.1 Hs.out.2)
  clear hB1 H1 HM Hs
  rcases hu with rfl | ⟨rfl, rfl⟩
  · go_wp2_with fail
    refine H2.out.mono ?_
    rintro e w2 ⟨A1, m1, c1, zs, A2, m2, c2, us, r, rfl, hm1, hm2, hl1, hl2, hB2, hq⟩
    obtain ⟨rfl, rfl, rfl⟩ : r = 1 ∧ m1 = 0 ∧ m2 = 0 := by
      rcases hq with ⟨h, _⟩ | ⟨_, h1, h2, h3⟩
      · exact absurd h no
      · exact ⟨h1, h2, h3⟩
    clear hq
    replace HA := Lib.hid (HA.out.below hB2)
    replace HB := Lib.hid (HB.out.below hB2)
    replace HS := Lib.hid (HS.out.trans (hB2.mono HS.out.size))
    have H3 := to_any A n c xs w2 HA.out (by omega)
    rw [HX.out] at H3
    replace H3 := Lib.hid H3
    clear hl1 hl2 H2 hm1 hm2 hB2
    go_wp2_with fail
    refine H3.out.mono ?_
    rintro e w3 ⟨A5, m5, c5, es, rfl, hm5, hl5, hb5, hv5, hB3⟩
    have HU : Hid (Dig w3 A5 m5 c5 es ∧ D.Bare es ∧ D.val es = X) := ⟨hl5, hb5, hv5⟩
    replace HS := Lib.hid (HS.out.trans (hB3.mono HS.out.size))
    have H4 := to_any B m d ys w3 (HB.out.below hB3) (by omega)
    rw [HY.out] at H4
    replace H4 := Lib.hid H4
    clear hl5 hb5 hv5 hB3 H3 HA HB
    go_wp2_with fail
    refine H4.out.mono ?_
    rintro e w4 ⟨A6, m6, c6, fs, rfl, hm6, hl6, hb6, hv6, hB4⟩
    replace HU : Hid (Dig w4 A5 m5 c5 es ∧ D.Bare es ∧ D.val es = X) := ⟨HU.out.1.below hB4, HU.out.2⟩
    have HV : Hid (Dig w4 A6 m6 c6 fs ∧ D.Bare fs ∧ D.val fs = Y) := ⟨hl6, hb6, hv6⟩
    replace HS := Lib.hid (HS.out.trans (hB4.mono HS.out.size))
    have H5 := radd_any A5 m5 c5 es A5 m5 c5 es w4 HU.out.1 HU.out.1 HU.out.2.1 HU.out.2.1 (by omega) (by omega)
    rw [HU.out.2.2] at H5
    replace H5 := Lib.hid H5
    clear hl6 hb6 hv6 hB4 H4
    go_wp2_with fail
    refine H5.out.mono ?_
    rintro e w5 ⟨A7, m7, c7, gs, rfl, hm7, hl7, hb7, hv7, hB5⟩
    replace HU : Hid (Dig w5 A5 m5 c5 es ∧ D.Bare es ∧ D.val es = X) := ⟨HU.out.1.below hB5, HU.out.2⟩
    replace HV : Hid (Dig w5 A6 m6 c6 fs ∧ D.Bare fs ∧ D.val fs = Y) := ⟨HV.out.1.below hB5, HV.out.2⟩
    replace HS := Lib.hid (HS.out.trans (hB5.mono HS.out.size))
    have H6 := radd_any A5 m5 c5 es A7 m7 c7 gs w5 HU.out.1 hl7 HU.out.2.1 hb7 (by omega) (by omega)
    rw [HU.out.2.2, hv7] at H6
    replace H6 := Lib.hid H6
    clear hl7 hb7 hv7 hB5 H5
    go_wp2_with fail
    refine H6.out.mono ?_
    rintro e w6 ⟨A8, m8, c8, hs, rfl, hm8, hl8, hb8, hv8, hB6⟩
    replace HU : Hid (Dig w6 A5 m5 c5 es ∧ D.Bare es ∧ D.val es = X) := ⟨HU.out.1.below hB6, HU.out.2⟩
    replace HV : Hid (Dig w6 A6 m6 c6 fs ∧ D.Bare fs ∧ D.val fs = Y) := ⟨HV.out.1.below hB6, HV.out.2⟩
    have HW : Hid (Dig w6 A8 m8 c8 hs ∧ D.Bare hs ∧ D.val hs = X + (X + X)) := ⟨hl8, hb8, hv8⟩
    replace HS := Lib.hid (HS.out.trans (hB6.mono HS.out.size))
    have H7 := Lib.hid (HR.out w6 Hr.out)
    have H8 := rbits_any A5 m5 c5 es w6 HU.out.1 HU.out.2.1 (by omega)
    rw [HU.out.2.2, Hbx.out] at H8
    replace H8 := Lib.hid H8
    clear hl8 hb8 hv8 hB6 H6
    go_wp2_with fail
    refine H7.out.mono ?_
    rintro e w' ⟨rfl, rfl⟩
    go_wp2_with fail
    refine H8.out.mono ?_
    rintro e w' ⟨rfl, rfl⟩
    have Hfin := Lib.hid HS.out
    clear HS HU HV HW H7
    go_wp2
    go_ret
    exact ⟨rfl, Hfin.out⟩
  · go_wp2_with fail
    refine H2.out.mono ?_
    rintro e w2 ⟨A1, m1, c1, zs, A2, m2, c2, us, r, rfl, hm1, hm2, hl1, hl2, hB2, hq⟩
    obtain ⟨rfl, rfl, rfl⟩ : r = 1 ∧ m1 = 0 ∧ m2 = 0 := by
      rcases hq with ⟨h, _⟩ | ⟨_, h1, h2, h3⟩
      · exact absurd h no
      · exact ⟨h1, h2, h3⟩
    clear hq
    replace HA := Lib.hid (HA.out.below hB2)
    replace HB := Lib.hid (HB.out.below hB2)
    replace HS := Lib.hid (HS.out.trans (hB2.mono HS.out.size))
    have H3 := to_any A n c xs w2 HA.out (by omega)
    rw [HX.out] at H3
    replace H3 := Lib.hid H3
    clear hl1 hl2 H2 hm1 hm2 hB2
    go_wp2_with fail
    refine H3.out.mono ?_
    rintro e w3 ⟨A5, m5, c5, es, rfl, hm5, hl5, hb5, hv5, hB3⟩
    have HU : Hid (Dig w3 A5 m5 c5 es ∧ D.Bare es ∧ D.val es = X) := ⟨hl5, hb5, hv5⟩
    replace HS := Lib.hid (HS.out.trans (hB3.mono HS.out.size))
    have H4 := to_any B m d ys w3 (HB.out.below hB3) (by omega)
    rw [HY.out] at H4
    replace H4 := Lib.hid H4
    clear hl5 hb5 hv5 hB3 H3 HA HB
    go_wp2_with fail
    refine H4.out.mono ?_
    rintro e w4 ⟨A6, m6, c6, fs, rfl, hm6, hl6, hb6, hv6, hB4⟩
    replace HU : Hid (Dig w4 A5 m5 c5 es ∧ D.Bare es ∧ D.val es = X) := ⟨HU.out.1.below hB4, HU.out.2⟩
    have HV : Hid (Dig w4 A6 m6 c6 fs ∧ D.Bare fs ∧ D.val fs = Y) := ⟨hl6, hb6, hv6⟩
    replace HS := Lib.hid (HS.out.trans (hB4.mono HS.out.size))
    have H5 := radd_any A5 m5 c5 es A5 m5 c5 es w4 HU.out.1 HU.out.1 HU.out.2.1 HU.out.2.1 (by omega) (by omega)
    rw [HU.out.2.2] at H5
    replace H5 := Lib.hid H5
    clear hl6 hb6 hv6 hB4 H4
    go_wp2_with fail
    refine H5.out.mono ?_
    rintro e w5 ⟨A7, m7, c7, gs, rfl, hm7, hl7, hb7, hv7, hB5⟩
    replace HU : Hid (Dig w5 A5 m5 c5 es ∧ D.Bare es ∧ D.val es = X) := ⟨HU.out.1.below hB5, HU.out.2⟩
    replace HV : Hid (Dig w5 A6 m6 c6 fs ∧ D.Bare fs ∧ D.val fs = Y) := ⟨HV.out.1.below hB5, HV.out.2⟩
    replace HS := Lib.hid (HS.out.trans (hB5.mono HS.out.size))
    have H6 := radd_any A5 m5 c5 es A7 m7 c7 gs w5 HU.out.1 hl7 HU.out.2.1 hb7 (by omega) (by omega)
    rw [HU.out.2.2, hv7] at H6
    replace H6 := Lib.hid H6
    clear hl7 hb7 hv7 hB5 H5
    go_wp2_with fail
    refine H6.out.mono ?_
    rintro e w6 ⟨A8, m8, c8, hs, rfl, hm8, hl8, hb8, hv8, hB6⟩
    replace HU : Hid (Dig w6 A5 m5 c5 es ∧ D.Bare es ∧ D.val es = X) := ⟨HU.out.1.below hB6, HU.out.2⟩
    replace HV : Hid (Dig w6 A6 m6 c6 fs ∧ D.Bare fs ∧ D.val fs = Y) := ⟨HV.out.1.below hB6, HV.out.2⟩
    have HW : Hid (Dig w6 A8 m8 c8 hs ∧ D.Bare hs ∧ D.val hs = X + (X + X)) := ⟨hl8, hb8, hv8⟩
    replace HS := Lib.hid (HS.out.trans (hB6.mono HS.out.size))
    have H7 := Lib.hid (HR.out w6 Hr.out)
    have H8 := rbits_any A5 m5 c5 es w6 HU.out.1 HU.out.2.1 (by omega)
    rw [HU.out.2.2, Hbx.out] at H8
    replace H8 := Lib.hid H8
    clear hl8 hb8 hv8 hB6 H6
    go_wp2_with fail
    refine H7.out.mono ?_
    rintro e w' ⟨rfl, rfl⟩
    go_wp2_with fail
    refine H8.out.mono ?_
    rintro e w' ⟨rfl, rfl⟩
    have Hfin := Lib.hid HS.out
    clear HS HU HV HW H7
    go_wp2
    go_ret
    exact ⟨rfl, Hfin.out⟩

set_option maxHeartbeats 2000000 in
set_option maxRecDepth 20000 in
theorem satanh_Y (HAt : AtanhMeets) (HLn : Ln2Meets) (A : Option Addr) (n c : Nat) (xs : List Nat) (B : Option Addr) (m d : Nat) (ys : List Nat) (s : Int) (w : World) (hT : Tab w) (hA : Lim w A n c xs) (hB : Lim w B m d ys) (hn : n ≤ 70) (hm : m ≤ 70) (hg : n ≤ 6 ∨ s ≤ 100) (hs1 : -9223372036854775808 ≤ s) (hs2 : s ≤ 9223372036854775807) (f1 : 8 ≤ s ∧ s ≤ 9000) (f2 : blen (val xs) ≤ 4096) (f3 : 4096 < blen (val ys)) :
    Calls Tryd.prog 3 #[.slice A n c, .slice B m d, .int .i64 s] w fun e w' => e = .returned (.bool true) ∧ Below w.heap.size w w' := by
  have no : ¬ AtOk (val xs) (val ys) s := fun h => (by have := h.2.2.1; omega)
  have H1 := Lib.hid (salive_any HLn w hT)
  have HA := Lib.hid hA
  have HB := Lib.hid hB
  have HT := Lib.hid hT
  have HM := Lib.hid HAt
  obtain ⟨X, hX⟩ : ∃ X, val xs = X := ⟨_, rfl⟩
  obtain ⟨Y, hY⟩ : ∃ Y, val ys = Y := ⟨_, rfl⟩
  have HX := Lib.hid hX
  have HY := Lib.hid hY
  have Hs : Hid (-9223372036854775808 ≤ s ∧ s ≤ 9223372036854775807) := ⟨hs1, hs2⟩
  have t1 : decide ((70 : Int) < (n : Int)) = false := decide_eq_false (by omega)
  have t1n : decide (70 < n) = false := decide_eq_false (by omega)
  have t2 : decide ((70 : Int) < (m : Int)) = false := decide_eq_false (by omega)
  have t2n : decide (70 < m) = false := decide_eq_false (by omega)
  obtain ⟨u3, hu3⟩ : ∃ u, decide (6 < n) = u := ⟨_, rfl⟩
  have t3 : decide ((6 : Int) < (n : Int)) = u3 := by rw [← hu3]; exact decide_eq_decide.2 (by omega)
  obtain ⟨u4, hu4⟩ : ∃ u, decide ((100 : Int) < s) = u := ⟨_, rfl⟩
  have hu : u3 = false ∨ (u3 = true ∧ u4 = false) := by
    rcases hg with h | h
    · exact Or.inl (by rw [← hu3]; exact decide_eq_false (by omega))
    · rw [← hu4, decide_eq_false (show ¬ (100 : Int) < s by omega)]
      cases u3
      · exact Or.inl rfl
      · exact Or.inr ⟨rfl, rfl⟩
  have HR := Lib.hid (right_l s true)
  have Hr : Hid (decide (8 ≤ s ∧ s ≤ 9000) = true) := decide_eq_true f1
  obtain ⟨bx, hbx⟩ : ∃ b, blen (val xs) = b := ⟨_, rfl⟩
  rw [hbx] at f2
  rw [hX] at hbx
  have Hbx := Lib.hid hbx
  have t5 : decide ((4096 : Int) < (bx : Int)) = false := decide_eq_false (by omega)
  have t5n : decide (4096 < bx) = false := decide_eq_false (by omega)
  obtain ⟨bY, hbY⟩ : ∃ b, blen (val ys) = b := ⟨_, rfl⟩
  rw [hbY] at f3
  rw [hY] at hbY
  have HbY := Lib.hid hbY
  have t6 : decide ((4096 : Int) < (bY : Int)) = true := decide_eq_true (by omega)
  have t6n : decide (4096 < bY) = true := decide_eq_true (by omega)
  clear HLn HAt hT hA hB hX hY hs1 hs2 hg hu3 hbx f2 hbY f3 f1
  go_enter Tryd.func3, Tryd.ntmps3
  go_wp2_with fail
  refine H1.out.mono ?_
  rintro e w1 ⟨rfl, hB1⟩
  have HS := Lib.hid hB1
  replace HT := Lib.hid (HT.out.below hB1)
  replace HA := Lib.hid (HA.out.below hB1)
  replace HB := Lib.hid (HB.out.below hB1)
  have H2 := Lib.hid (HM.out A n c xs B m d ys s w1 HA.out HB.out hn hm HT.out Hs.out.1 Hs.out.2)
  clear hB1 H1 HM Hs
  rcases hu with rfl | ⟨rfl, rfl⟩
  · go_wp2_with fail
    refine H2.out.mono ?_
    rintro e w2 ⟨A1, m1, c1, zs, A2, m2, c2, us, r, rfl, hm1, hm2, hl1, hl2, hB2, hq⟩
    obtain ⟨rfl, rfl, rfl⟩ : r = 1 ∧ m1 = 0 ∧ m2 = 0 := by
      rcases hq with ⟨h, _⟩ | ⟨_, h1, h2, h3⟩
      · exact absurd h no
      · exact ⟨h1, h2, h3⟩
    clear hq
    replace HA := Lib.hid (HA.out.below hB2)
    replace HB := Lib.hid (HB.out.below hB2)
    replace HS := Lib.hid (HS.out.trans (hB2.mono HS.out.size))
    have H3 := to_any A n c xs w2 HA.out (by omega)
    rw [HX.out] at H3
    replace H3 := Lib.hid H3
    clear hl1 hl2 H2 hm1 hm2 hB2
    go_wp2_with fail
    refine H3.out.mono ?_
    rintro e w3 ⟨A5, m5, c5, es, rfl, hm5, hl5, hb5, hv5, hB3⟩
    have HU : Hid (Dig w3 A5 m5 c5 es ∧ D.Bare es ∧ D.val es = X) := ⟨hl5, hb5, hv5⟩
    replace HS := Lib.hid (HS.out.trans (hB3.mono HS.out.size))
    have H4 := to_any B m d ys w3 (HB.out.below hB3) (by omega)
    rw [HY.out] at H4
    replace H4 := Lib.hid H4
    clear hl5 hb5 hv5 hB3 H3 HA HB
    go_wp2_with fail
    refine H4.out.mono ?_
    rintro e w4 ⟨A6, m6, c6, fs, rfl, hm6, hl6, hb6, hv6, hB4⟩
    replace HU : Hid (Dig w4 A5 m5 c5 es ∧ D.Bare es ∧ D.val es = X) := ⟨HU.out.1.below hB4, HU.out.2⟩
    have HV : Hid (Dig w4 A6 m6 c6 fs ∧ D.Bare fs ∧ D.val fs = Y) := ⟨hl6, hb6, hv6⟩
    replace HS := Lib.hid (HS.out.trans (hB4.mono HS.out.size))
    have H5 := radd_any A5 m5 c5 es A5 m5 c5 es w4 HU.out.1 HU.out.1 HU.out.2.1 HU.out.2.1 (by omega) (by omega)
    rw [HU.out.2.2] at H5
    replace H5 := Lib.hid H5
    clear hl6 hb6 hv6 hB4 H4
    go_wp2_with fail
    refine H5.out.mono ?_
    rintro e w5 ⟨A7, m7, c7, gs, rfl, hm7, hl7, hb7, hv7, hB5⟩
    replace HU : Hid (Dig w5 A5 m5 c5 es ∧ D.Bare es ∧ D.val es = X) := ⟨HU.out.1.below hB5, HU.out.2⟩
    replace HV : Hid (Dig w5 A6 m6 c6 fs ∧ D.Bare fs ∧ D.val fs = Y) := ⟨HV.out.1.below hB5, HV.out.2⟩
    replace HS := Lib.hid (HS.out.trans (hB5.mono HS.out.size))
    have H6 := radd_any A5 m5 c5 es A7 m7 c7 gs w5 HU.out.1 hl7 HU.out.2.1 hb7 (by omega) (by omega)
    rw [HU.out.2.2, hv7] at H6
    replace H6 := Lib.hid H6
    clear hl7 hb7 hv7 hB5 H5
    go_wp2_with fail
    refine H6.out.mono ?_
    rintro e w6 ⟨A8, m8, c8, hs, rfl, hm8, hl8, hb8, hv8, hB6⟩
    replace HU : Hid (Dig w6 A5 m5 c5 es ∧ D.Bare es ∧ D.val es = X) := ⟨HU.out.1.below hB6, HU.out.2⟩
    replace HV : Hid (Dig w6 A6 m6 c6 fs ∧ D.Bare fs ∧ D.val fs = Y) := ⟨HV.out.1.below hB6, HV.out.2⟩
    have HW : Hid (Dig w6 A8 m8 c8 hs ∧ D.Bare hs ∧ D.val hs = X + (X + X)) := ⟨hl8, hb8, hv8⟩
    replace HS := Lib.hid (HS.out.trans (hB6.mono HS.out.size))
    have H7 := Lib.hid (HR.out w6 Hr.out)
    have H8 := rbits_any A5 m5 c5 es w6 HU.out.1 HU.out.2.1 (by omega)
    rw [HU.out.2.2, Hbx.out] at H8
    replace H8 := Lib.hid H8
    have H9 := rbits_any A6 m6 c6 fs w6 HV.out.1 HV.out.2.1 (by omega)
    rw [HV.out.2.2, HbY.out] at H9
    replace H9 := Lib.hid H9
    clear hl8 hb8 hv8 hB6 H6
    go_wp2_with fail
    refine H7.out.mono ?_
    rintro e w' ⟨rfl, rfl⟩
    go_wp2_with fail
    refine H8.out.mono ?_
    rintro e w' ⟨rfl, rfl⟩
    go_wp2_with fail
    refine H9.out.mono ?_
    rintro e w' ⟨rfl, rfl⟩
    have Hfin := Lib.hid HS.out
    clear HS HU HV HW H7
    go_wp2
    go_ret
    exact ⟨rfl, Hfin.out⟩
  · go_wp2_with fail
    refine H2.out.mono ?_
    rintro e w2 ⟨A1, m1, c1, zs, A2, m2, c2, us, r, rfl, hm1, hm2, hl1, hl2, hB2, hq⟩
    obtain ⟨rfl, rfl, rfl⟩ : r = 1 ∧ m1 = 0 ∧ m2 = 0 := by
      rcases hq with ⟨h, _⟩ | ⟨_, h1, h2, h3⟩
      · exact absurd h no
      · exact ⟨h1, h2, h3⟩
    clear hq
    replace HA := Lib.hid (HA.out.below hB2)
    replace HB := Lib.hid (HB.out.below hB2)
    replace HS := Lib.hid (HS.out.trans (hB2.mono HS.out.size))
    have H3 := to_any A n c xs w2 HA.out (by omega)
    rw [HX.out] at H3
    replace H3 := Lib.hid H3
    clear hl1 hl2 H2 hm1 hm2 hB2
    go_wp2_with fail
    refine H3.out.mono ?_
    rintro e w3 ⟨A5, m5, c5, es, rfl, hm5, hl5, hb5, hv5, hB3⟩
    have HU : Hid (Dig w3 A5 m5 c5 es ∧ D.Bare es ∧ D.val es = X) := ⟨hl5, hb5, hv5⟩
    replace HS := Lib.hid (HS.out.trans (hB3.mono HS.out.size))
    have H4 := to_any B m d ys w3 (HB.out.below hB3) (by omega)
    rw [HY.out] at H4
    replace H4 := Lib.hid H4
    clear hl5 hb5 hv5 hB3 H3 HA HB
    go_wp2_with fail
    refine H4.out.mono ?_
    rintro e w4 ⟨A6, m6, c6, fs, rfl, hm6, hl6, hb6, hv6, hB4⟩
    replace HU : Hid (Dig w4 A5 m5 c5 es ∧ D.Bare es ∧ D.val es = X) := ⟨HU.out.1.below hB4, HU.out.2⟩
    have HV : Hid (Dig w4 A6 m6 c6 fs ∧ D.Bare fs ∧ D.val fs = Y) := ⟨hl6, hb6, hv6⟩
    replace HS := Lib.hid (HS.out.trans (hB4.mono HS.out.size))
    have H5 := radd_any A5 m5 c5 es A5 m5 c5 es w4 HU.out.1 HU.out.1 HU.out.2.1 HU.out.2.1 (by omega) (by omega)
    rw [HU.out.2.2] at H5
    replace H5 := Lib.hid H5
    clear hl6 hb6 hv6 hB4 H4
    go_wp2_with fail
    refine H5.out.mono ?_
    rintro e w5 ⟨A7, m7, c7, gs, rfl, hm7, hl7, hb7, hv7, hB5⟩
    replace HU : Hid (Dig w5 A5 m5 c5 es ∧ D.Bare es ∧ D.val es = X) := ⟨HU.out.1.below hB5, HU.out.2⟩
    replace HV : Hid (Dig w5 A6 m6 c6 fs ∧ D.Bare fs ∧ D.val fs = Y) := ⟨HV.out.1.below hB5, HV.out.2⟩
    replace HS := Lib.hid (HS.out.trans (hB5.mono HS.out.size))
    have H6 := radd_any A5 m5 c5 es A7 m7 c7 gs w5 HU.out.1 hl7 HU.out.2.1 hb7 (by omega) (by omega)
    rw [HU.out.2.2, hv7] at H6
    replace H6 := Lib.hid H6
    clear hl7 hb7 hv7 hB5 H5
    go_wp2_with fail
    refine H6.out.mono ?_
    rintro e w6 ⟨A8, m8, c8, hs, rfl, hm8, hl8, hb8, hv8, hB6⟩
    replace HU : Hid (Dig w6 A5 m5 c5 es ∧ D.Bare es ∧ D.val es = X) := ⟨HU.out.1.below hB6, HU.out.2⟩
    replace HV : Hid (Dig w6 A6 m6 c6 fs ∧ D.Bare fs ∧ D.val fs = Y) := ⟨HV.out.1.below hB6, HV.out.2⟩
    have HW : Hid (Dig w6 A8 m8 c8 hs ∧ D.Bare hs ∧ D.val hs = X + (X + X)) := ⟨hl8, hb8, hv8⟩
    replace HS := Lib.hid (HS.out.trans (hB6.mono HS.out.size))
    have H7 := Lib.hid (HR.out w6 Hr.out)
    have H8 := rbits_any A5 m5 c5 es w6 HU.out.1 HU.out.2.1 (by omega)
    rw [HU.out.2.2, Hbx.out] at H8
    replace H8 := Lib.hid H8
    have H9 := rbits_any A6 m6 c6 fs w6 HV.out.1 HV.out.2.1 (by omega)
    rw [HV.out.2.2, HbY.out] at H9
    replace H9 := Lib.hid H9
    clear hl8 hb8 hv8 hB6 H6
    go_wp2_with fail
    refine H7.out.mono ?_
    rintro e w' ⟨rfl, rfl⟩
    go_wp2_with fail
    refine H8.out.mono ?_
    rintro e w' ⟨rfl, rfl⟩
    go_wp2_with fail
    refine H9.out.mono ?_
    rintro e w' ⟨rfl, rfl⟩
    have Hfin := Lib.hid HS.out
    clear HS HU HV HW H7
    go_wp2
    go_ret
    exact ⟨rfl, Hfin.out⟩

set_option maxHeartbeats 2000000 in
set_option maxRecDepth 20000 in
theorem satanh_Z (HAt : AtanhMeets) (HLn : Ln2Meets) (A : Option Addr) (n c : Nat) (xs : List Nat) (B : Option Addr) (m d : Nat) (ys : List Nat) (s : Int) (w : World) (hT : Tab w) (hA : Lim w A n c xs) (hB : Lim w B m d ys) (hn : n ≤ 70) (hm : m ≤ 70) (hg : n ≤ 6 ∨ s ≤ 100) (hs1 : -9223372036854775808 ≤ s) (hs2 : s ≤ 9223372036854775807) (f1 : 8 ≤ s ∧ s ≤ 9000) (f2 : blen (val xs) ≤ 4096) (f3 : blen (val ys) ≤ 4096) (f4 : val ys = 0) :
    Calls Tryd.prog 3 #[.slice A n c, .slice B m d, .int .i64 s] w fun e w' => e = .returned (.bool true) ∧ Below w.heap.size w w' := by
  have no : ¬ AtOk (val xs) (val ys) s := fun h => h.2.2.2.1 f4
  have H1 := Lib.hid (salive_any HLn w hT)
  have HA := Lib.hid hA
  have HB := Lib.hid hB
  have HT := Lib.hid hT
  have HM := Lib.hid HAt
  obtain ⟨X, hX⟩ : ∃ X, val xs = X := ⟨_, rfl⟩
  obtain ⟨Y, hY⟩ : ∃ Y, val ys = Y := ⟨_, rfl⟩
  have HX := Lib.hid hX
  have HY := Lib.hid hY
  have Hs : Hid (-9223372036854775808 ≤ s ∧ s ≤ 9223372036854775807) := ⟨hs1, hs2⟩
  have t1 : decide ((70 : Int) < (n : Int)) = false := decide_eq_false (by omega)
  have t1n : decide (70 < n) = false := decide_eq_false (by omega)
  have t2 : decide ((70 : Int) < (m : Int)) = false := decide_eq_false (by omega)
  have t2n : decide (70 < m) = false := decide_eq_false (by omega)
  obtain ⟨u3, hu3⟩ : ∃ u, decide (6 < n) = u := ⟨_, rfl⟩
  have t3 : decide ((6 : Int) < (n : Int)) = u3 := by rw [← hu3]; exact decide_eq_decide.2 (by omega)
  obtain ⟨u4, hu4⟩ : ∃ u, decide ((100 : Int) < s) = u := ⟨_, rfl⟩
  have hu : u3 = false ∨ (u3 = true ∧ u4 = false) := by
    rcases hg with h | h
    · exact Or.inl (by rw [← hu3]; exact decide_eq_false (by omega))
    · rw [← hu4, decide_eq_false (show ¬ (100 : Int) < s by omega)]
      cases u3
      · exact Or.inl rfl
      · exact Or.inr ⟨rfl, rfl⟩
  have HR := Lib.hid (right_l s true)
  have Hr : Hid (decide (8 ≤ s ∧ s ≤ 9000) = true) := decide_eq_true f1
  obtain ⟨bx, hbx⟩ : ∃ b, blen (val xs) = b := ⟨_, rfl⟩
  rw [hbx] at f2
  rw [hX] at hbx
  have Hbx := Lib.hid hbx
  have t5 : decide ((4096 : Int) < (bx : Int)) = false := decide_eq_false (by omega)
  have t5n : decide (4096 < bx) = false := decide_eq_false (by omega)
  obtain ⟨bY, hbY⟩ : ∃ b, blen (val ys) = b := ⟨_, rfl⟩
  rw [hbY] at f3
  rw [hY] at hbY
  have HbY := Lib.hid hbY
  have t6 : decide ((4096 : Int) < (bY : Int)) = false := decide_eq_false (by omega)
  have t6n : decide (4096 < bY) = false := decide_eq_false (by omega)
  rw [hY] at f4
  have F4 := Lib.hid f4
  clear HLn HAt hT hA hB hX hY hs1 hs2 hg hu3 hbx f2 hbY f3 f4 f1
  go_enter Tryd.func3, Tryd.ntmps3
  go_wp2_with fail
  refine H1.out.mono ?_
  rintro e w1 ⟨rfl, hB1⟩
  have HS := Lib.hid hB1
  replace HT := Lib.hid (HT.out.below hB1)
  replace HA := Lib.hid (HA.out.below hB1)
  replace HB := Lib.hid (HB.out.below hB1)
  have H2 := Lib.hid (HM.out A n c xs B m d ys s w1 HA.out HB.out hn hm HT.out Hs.out.1 Hs.out.2)
  clear hB1 H1 HM Hs
  rcases hu with rfl | ⟨rfl, rfl⟩
  · go_wp2_with fail
    refine H2.out.mono ?_
    rintro e w2 ⟨A1, m1, c1, zs, A2, m2, c2, us, r, rfl, hm1, hm2, hl1, hl2, hB2, hq⟩
    obtain ⟨rfl, rfl, rfl⟩ : r = 1 ∧ m1 = 0 ∧ m2 = 0 := by
      rcases hq with ⟨h, _⟩ | ⟨_, h1, h2, h3⟩
      · exact absurd h no
      · exact ⟨h1, h2, h3⟩
    clear hq
    replace HA := Lib.hid (HA.out.below hB2)
    replace HB := Lib.hid (HB.out.below hB2)
    replace HS := Lib.hid (HS.out.trans (hB2.mono HS.out.size))
    have H3 := to_any A n c xs w2 HA.out (by omega)
    rw [HX.out] at H3
    replace H3 := Lib.hid H3
    clear hl1 hl2 H2 hm1 hm2 hB2
    go_wp2_with fail
    refine H3.out.mono ?_
    rintro e w3 ⟨A5, m5, c5, es, rfl, hm5, hl5, hb5, hv5, hB3⟩
    have HU : Hid (Dig w3 A5 m5 c5 es ∧ D.Bare es ∧ D.val es = X) := ⟨hl5, hb5, hv5⟩
    replace HS := Lib.hid (HS.out.trans (hB3.mono HS.out.size))
    have H4 := to_any B m d ys w3 (HB.out.below hB3) (by omega)
    rw [HY.out] at H4
    replace H4 := Lib.hid H4
    clear hl5 hb5 hv5 hB3 H3 HA HB
    go_wp2_with fail
    refine H4.out.mono ?_
    rintro e w4 ⟨A6, m6, c6, fs, rfl, hm6, hl6, hb6, hv6, hB4⟩
    replace HU : Hid (Dig w4 A5 m5 c5 es ∧ D.Bare es ∧ D.val es = X) := ⟨HU.out.1.below hB4, HU.out.2⟩
    have HV : Hid (Dig w4 A6 m6 c6 fs ∧ D.Bare fs ∧ D.val fs = Y) := ⟨hl6, hb6, hv6⟩
    replace HS := Lib.hid (HS.out.trans (hB4.mono HS.out.size))
    have H5 := radd_any A5 m5 c5 es A5 m5 c5 es w4 HU.out.1 HU.out.1 HU.out.2.1 HU.out.2.1 (by omega) (by omega)
    rw [HU.out.2.2] at H5
    replace H5 := Lib.hid H5
    obtain rfl : m6 = 0 := by
      have := digs_zero hl6 hb6 (by rw [hv6]; exact F4.out)
      exact this
    clear hl6 hb6 hv6 hB4 H4
    go_wp2_with fail
    refine H5.out.mono ?_
    rintro e w5 ⟨A7, m7, c7, gs, rfl, hm7, hl7, hb7, hv7, hB5⟩
    replace HU : Hid (Dig w5 A5 m5 c5 es ∧ D.Bare es ∧ D.val es = X) := ⟨HU.out.1.below hB5, HU.out.2⟩
    replace HV : Hid (Dig w5 A6 0 c6 fs ∧ D.Bare fs ∧ D.val fs = Y) := ⟨HV.out.1.below hB5, HV.out.2⟩
    replace HS := Lib.hid (HS.out.trans (hB5.mono HS.out.size))
    have H6 := radd_any A5 m5 c5 es A7 m7 c7 gs w5 HU.out.1 hl7 HU.out.2.1 hb7 (by omega) (by omega)
    rw [HU.out.2.2, hv7] at H6
    replace H6 := Lib.hid H6
    clear hl7 hb7 hv7 hB5 H5
    go_wp2_with fail
    refine H6.out.mono ?_
    rintro e w6 ⟨A8, m8, c8, hs, rfl, hm8, hl8, hb8, hv8, hB6⟩
    replace HU : Hid (Dig w6 A5 m5 c5 es ∧ D.Bare es ∧ D.val es = X) := ⟨HU.out.1.below hB6, HU.out.2⟩
    replace HV : Hid (Dig w6 A6 0 c6 fs ∧ D.Bare fs ∧ D.val fs = Y) := ⟨HV.out.1.below hB6, HV.out.2⟩
    have HW : Hid (Dig w6 A8 m8 c8 hs ∧ D.Bare hs ∧ D.val hs = X + (X + X)) := ⟨hl8, hb8, hv8⟩
    replace HS := Lib.hid (HS.out.trans (hB6.mono HS.out.size))
    have H7 := Lib.hid (HR.out w6 Hr.out)
    have H8 := rbits_any A5 m5 c5 es w6 HU.out.1 HU.out.2.1 (by omega)
    rw [HU.out.2.2, Hbx.out] at H8
    replace H8 := Lib.hid H8
    have H9 := rbits_any A6 0 c6 fs w6 HV.out.1 HV.out.2.1 (by omega)
    rw [HV.out.2.2, HbY.out] at H9
    replace H9 := Lib.hid H9
    clear hl8 hb8 hv8 hB6 H6
    go_wp2_with fail
    refine H7.out.mono ?_
    rintro e w' ⟨rfl, rfl⟩
    go_wp2_with fail
    refine H8.out.mono ?_
    rintro e w' ⟨rfl, rfl⟩
    go_wp2_with fail
    refine H9.out.mono ?_
    rintro e w' ⟨rfl, rfl⟩
    have Hfin := Lib.hid HS.out
    clear HS HU HV HW H7
    go_wp2
    go_ret
    exact ⟨rfl, Hfin.out⟩
  · go_wp2_with fail
    refine H2.out.mono ?_
    rintro e w2 ⟨A1, m1, c1, zs, A2, m2, c2, us, r, rfl, hm1, hm2, hl1, hl2, hB2, hq⟩
    obtain ⟨rfl, rfl, rfl⟩ : r = 1 ∧ m1 = 0 ∧ m2 = 0 := by
      rcases hq with ⟨h, _⟩ | ⟨_, h1, h2, h3⟩
      · exact absurd h no
      · exact ⟨h1, h2, h3⟩
    clear hq
    replace HA := Lib.hid (HA.out.below hB2)
    replace HB := Lib.hid (HB.out.below hB2)
    replace HS := Lib.hid (HS.out.trans (hB2.mono HS.out.size))
    have H3 := to_any A n c xs w2 HA.out (by omega)
    rw [HX.out] at H3
    replace H3 := Lib.hid H3
    clear hl1 hl2 H2 hm1 hm2 hB2
    go_wp2_with fail
    refine H3.out.mono ?_
    rintro e w3 ⟨A5, m5, c5, es, rfl, hm5, hl5, hb5, hv5, hB3⟩
    have HU : Hid (Dig w3 A5 m5 c5 es ∧ D.Bare es ∧ D.val es = X) := ⟨hl5, hb5, hv5⟩
    replace HS := Lib.hid (HS.out.trans (hB3.mono HS.out.size))
    have H4 := to_any B m d ys w3 (HB.out.below hB3) (by omega)
    rw [HY.out] at H4
    replace H4 := Lib.hid H4
    clear hl5 hb5 hv5 hB3 H3 HA HB
    go_wp2_with fail
    refine H4.out.mono ?_
    rintro e w4 ⟨A6, m6, c6, fs, rfl, hm6, hl6, hb6, hv6, hB4⟩
    replace HU : Hid (Dig w4 A5 m5 c5 es ∧ D.Bare es ∧ D.val es = X) := ⟨HU.out.1.below hB4, HU.out.2⟩
    have HV : Hid (Dig w4 A6 m6 c6 fs ∧ D.Bare fs ∧ D.val fs = Y) := ⟨hl6, hb6, hv6⟩
    replace HS := Lib.hid (HS.out.trans (hB4.mono HS.out.size))
    have H5 := radd_any A5 m5 c5 es A5 m5 c5 es w4 HU.out.1 HU.out.1 HU.out.2.1 HU.out.2.1 (by omega) (by omega)
    rw [HU.out.2.2] at H5
    replace H5 := Lib.hid H5
    obtain rfl : m6 = 0 := by
      have := digs_zero hl6 hb6 (by rw [hv6]; exact F4.out)
      exact this
    clear hl6 hb6 hv6 hB4 H4
    go_wp2_with fail
    refine H5.out.mono ?_
    rintro e w5 ⟨A7, m7, c7, gs, rfl, hm7, hl7, hb7, hv7, hB5⟩
    replace HU : Hid (Dig w5 A5 m5 c5 es ∧ D.Bare es ∧ D.val es = X) := ⟨HU.out.1.below hB5, HU.out.2⟩
    replace HV : Hid (Dig w5 A6 0 c6 fs ∧ D.Bare fs ∧ D.val fs = Y) := ⟨HV.out.1.below hB5, HV.out.2⟩
    replace HS := Lib.hid (HS.out.trans (hB5.mono HS.out.size))
    have H6 := radd_any A5 m5 c5 es A7 m7 c7 gs w5 HU.out.1 hl7 HU.out.2.1 hb7 (by omega) (by omega)
    rw [HU.out.2.2, hv7] at H6
    replace H6 := Lib.hid H6
    clear hl7 hb7 hv7 hB5 H5
    go_wp2_with fail
    refine H6.out.mono ?_
    rintro e w6 ⟨A8, m8, c8, hs, rfl, hm8, hl8, hb8, hv8, hB6⟩
    replace HU : Hid (Dig w6 A5 m5 c5 es ∧ D.Bare es ∧ D.val es = X) := ⟨HU.out.1.below hB6, HU.out.2⟩
    replace HV : Hid (Dig w6 A6 0 c6 fs ∧ D.Bare fs ∧ D.val fs = Y) := ⟨HV.out.1.below hB6, HV.out.2⟩
    have HW : Hid (Dig w6 A8 m8 c8 hs ∧ D.Bare hs ∧ D.val hs = X + (X + X)) := ⟨hl8, hb8, hv8⟩
    replace HS := Lib.hid (HS.out.trans (hB6.mono HS.out.size))
    have H7 := Lib.hid (HR.out w6 Hr.out)
    have H8 := rbits_any A5 m5 c5 es w6 HU.out.1 HU.out.2.1 (by omega)
    rw [HU.out.2.2, Hbx.out] at H8
    replace H8 := Lib.hid H8
    have H9 := rbits_any A6 0 c6 fs w6 HV.out.1 HV.out.2.1 (by omega)
    rw [HV.out.2.2, HbY.out] at H9
    replace H9 := Lib.hid H9
    clear hl8 hb8 hv8 hB6 H6
    go_wp2_with fail
    refine H7.out.mono ?_
    rintro e w' ⟨rfl, rfl⟩
    go_wp2_with fail
    refine H8.out.mono ?_
    rintro e w' ⟨rfl, rfl⟩
    go_wp2_with fail
    refine H9.out.mono ?_
    rintro e w' ⟨rfl, rfl⟩
    have Hfin := Lib.hid HS.out
    clear HS HU HV HW H7
    go_wp2
    go_ret
    exact ⟨rfl, Hfin.out⟩

set_option maxHeartbeats 2000000 in
set_option maxRecDepth 20000 in
theorem satanh_T (HAt : AtanhMeets) (HLn : Ln2Meets) (A : Option Addr) (n c : Nat) (xs : List Nat) (B : Option Addr) (m d : Nat) (ys : List Nat) (s : Int) (w : World) (hT : Tab w) (hA : Lim w A n c xs) (hB : Lim w B m d ys) (hn : n ≤ 70) (hm : m ≤ 70) (hg : n ≤ 6 ∨ s ≤ 100) (hs1 : -9223372036854775808 ≤ s) (hs2 : s ≤ 9223372036854775807) (f1 : 8 ≤ s ∧ s ≤ 9000) (f2 : blen (val xs) ≤ 4096) (f3 : blen (val ys) ≤ 4096) (f4 : val ys ≠ 0) (f5 : val ys < 3 * val xs) :
    Calls Tryd.prog 3 #[.slice A n c, .slice B m d, .int .i64 s] w fun e w' => e = .returned (.bool true) ∧ Below w.heap.size w w' := by
  have no : ¬ AtOk (val xs) (val ys) s := fun h => (by have := h.2.2.2.2; omega)
  have H1 := Lib.hid (salive_any HLn w hT)
  have HA := Lib.hid hA
  have HB := Lib.hid hB
  have HT := Lib.hid hT
  have HM := Lib.hid HAt
  obtain ⟨X, hX⟩ : ∃ X, val xs = X := ⟨_, rfl⟩
  obtain ⟨Y, hY⟩ : ∃ Y, val ys = Y := ⟨_, rfl⟩
  have HX := Lib.hid hX
  have HY := Lib.hid hY
  have Hs : Hid (-9223372036854775808 ≤ s ∧ s ≤ 9223372036854775807) := ⟨hs1, hs2⟩
  have t1 : decide ((70 : Int) < (n : Int)) = false := decide_eq_false (by omega)
  have t1n : decide (70 < n) = false := decide_eq_false (by omega)
  have t2 : decide ((70 : Int) < (m : Int)) = false := decide_eq_false (by omega)
  have t2n : decide (70 < m) = false := decide_eq_false (by omega)
  obtain ⟨u3, hu3⟩ : ∃ u, decide (6 < n) = u := ⟨_, rfl⟩
  have t3 : decide ((6 : Int) < (n : Int)) = u3 := by rw [← hu3]; exact decide_eq_decide.2 (by omega)
  obtain ⟨u4, hu4⟩ : ∃ u, decide ((100 : Int) < s) = u := ⟨_, rfl⟩
  have hu : u3 = false ∨ (u3 = true ∧ u4 = false) := by
    rcases hg with h | h
    · exact Or.inl (by rw [← hu3]; exact decide_eq_false (by omega))
    · rw [← hu4, decide_eq_false (show ¬ (100 : Int) < s by omega)]
      cases u3
      · exact Or.inl rfl
      · exact Or.inr ⟨rfl, rfl⟩
  have HR := Lib.hid (right_l s true)
  have Hr : Hid (decide (8 ≤ s ∧ s ≤ 9000) = true) := decide_eq_true f1
  obtain ⟨bx, hbx⟩ : ∃ b, blen (val xs) = b := ⟨_, rfl⟩
  rw [hbx] at f2
  rw [hX] at hbx
  have Hbx := Lib.hid hbx
  have t5 : decide ((4096 : Int) < (bx : Int)) = false := decide_eq_false (by omega)
  have t5n : decide (4096 < bx) = false := decide_eq_false (by omega)
  obtain ⟨bY, hbY⟩ : ∃ b, blen (val ys) = b := ⟨_, rfl⟩
  rw [hbY] at f3
  rw [hY] at hbY
  have HbY := Lib.hid hbY
  have t6 : decide ((4096 : Int) < (bY : Int)) = false := decide_eq_false (by omega)
  have t6n : decide (4096 < bY) = false := decide_eq_false (by omega)
  rw [hY] at f4
  have F4 := Lib.hid f4
  rw [hX, hY] at f5
  have F5 := Lib.hid f5
  clear HLn HAt hT hA hB hX hY hs1 hs2 hg hu3 hbx f2 hbY f3 f4 f5 f1
  go_enter Tryd.func3, Tryd.ntmps3
  go_wp2_with fail
  refine H1.out.mono ?_
  rintro e w1 ⟨rfl, hB1⟩
  have HS := Lib.hid hB1
  replace HT := Lib.hid (HT.out.below hB1)
  replace HA := Lib.hid (HA.out.below hB1)
  replace HB := Lib.hid (HB.out.below hB1)
  have H2 := Lib.hid (HM.out A n c xs B m d ys s w1 HA.out HB.out hn hm HT.out Hs.out.1 Hs.out.2)
  clear hB1 H1 HM Hs
  rcases hu with rfl | ⟨rfl, rfl⟩
  · go_wp2_with fail
    refine H2.out.mono ?_
    rintro e w2 ⟨A1, m1, c1, zs, A2, m2, c2, us, r, rfl, hm1, hm2, hl1, hl2, hB2, hq⟩
    obtain ⟨rfl, rfl, rfl⟩ : r = 1 ∧ m1 = 0 ∧ m2 = 0 := by
      rcases hq with ⟨h, _⟩ | ⟨_, h1, h2, h3⟩
      · exact absurd h no
      · exact ⟨h1, h2, h3⟩
    clear hq
    replace HA := Lib.hid (HA.out.below hB2)
    replace HB := Lib.hid (HB.out.below hB2)
    replace HS := Lib.hid (HS.out.trans (hB2.mono HS.out.size))
    have H3 := to_any A n c xs w2 HA.out (by omega)
    rw [HX.out] at H3
    replace H3 := Lib.hid H3
    clear hl1 hl2 H2 hm1 hm2 hB2
    go_wp2_with fail
    refine H3.out.mono ?_
    rintro e w3 ⟨A5, m5, c5, es, rfl, hm5, hl5, hb5, hv5, hB3⟩
    have HU : Hid (Dig w3 A5 m5 c5 es ∧ D.Bare es ∧ D.val es = X) := ⟨hl5, hb5, hv5⟩
    replace HS := Lib.hid (HS.out.trans (hB3.mono HS.out.size))
    have H4 := to_any B m d ys w3 (HB.out.below hB3) (by omega)
    rw [HY.out] at H4
    replace H4 := Lib.hid H4
    clear hl5 hb5 hv5 hB3 H3 HA HB
    go_wp2_with fail
    refine H4.out.mono ?_
    rintro e w4 ⟨A6, m6, c6, fs, rfl, hm6, hl6, hb6, hv6, hB4⟩
    replace HU : Hid (Dig w4 A5 m5 c5 es ∧ D.Bare es ∧ D.val es = X) := ⟨HU.out.1.below hB4, HU.out.2⟩
    have HV : Hid (Dig w4 A6 m6 c6 fs ∧ D.Bare fs ∧ D.val fs = Y) := ⟨hl6, hb6, hv6⟩
    replace HS := Lib.hid (HS.out.trans (hB4.mono HS.out.size))
    have H5 := radd_any A5 m5 c5 es A5 m5 c5 es w4 HU.out.1 HU.out.1 HU.out.2.1 HU.out.2.1 (by omega) (by omega)
    rw [HU.out.2.2] at H5
    replace H5 := Lib.hid H5
    have hm60 : m6 ≠ 0 := digs_pos hl6 (by rw [hv6]; exact F4.out)
    have c60 : ((m6 : Int) == 0) = false := beq_no (by omega)
    clear hl6 hb6 hv6 hB4 H4
    go_wp2_with fail
    refine H5.out.mono ?_
    rintro e w5 ⟨A7, m7, c7, gs, rfl, hm7, hl7, hb7, hv7, hB5⟩
    replace HU : Hid (Dig w5 A5 m5 c5 es ∧ D.Bare es ∧ D.val es = X) := ⟨HU.out.1.below hB5, HU.out.2⟩
    replace HV : Hid (Dig w5 A6 m6 c6 fs ∧ D.Bare fs ∧ D.val fs = Y) := ⟨HV.out.1.below hB5, HV.out.2⟩
    replace HS := Lib.hid (HS.out.trans (hB5.mono HS.out.size))
    have H6 := radd_any A5 m5 c5 es A7 m7 c7 gs w5 HU.out.1 hl7 HU.out.2.1 hb7 (by omega) (by omega)
    rw [HU.out.2.2, hv7] at H6
    replace H6 := Lib.hid H6
    clear hl7 hb7 hv7 hB5 H5
    go_wp2_with fail
    refine H6.out.mono ?_
    rintro e w6 ⟨A8, m8, c8, hs, rfl, hm8, hl8, hb8, hv8, hB6⟩
    replace HU : Hid (Dig w6 A5 m5 c5 es ∧ D.Bare es ∧ D.val es = X) := ⟨HU.out.1.below hB6, HU.out.2⟩
    replace HV : Hid (Dig w6 A6 m6 c6 fs ∧ D.Bare fs ∧ D.val fs = Y) := ⟨HV.out.1.below hB6, HV.out.2⟩
    have HW : Hid (Dig w6 A8 m8 c8 hs ∧ D.Bare hs ∧ D.val hs = X + (X + X)) := ⟨hl8, hb8, hv8⟩
    replace HS := Lib.hid (HS.out.trans (hB6.mono HS.out.size))
    have H7 := Lib.hid (HR.out w6 Hr.out)
    have H8 := rbits_any A5 m5 c5 es w6 HU.out.1 HU.out.2.1 (by omega)
    rw [HU.out.2.2, Hbx.out] at H8
    replace H8 := Lib.hid H8
    have H9 := rbits_any A6 m6 c6 fs w6 HV.out.1 HV.out.2.1 (by omega)
    rw [HV.out.2.2, HbY.out] at H9
    replace H9 := Lib.hid H9
    clear hl8 hb8 hv8 hB6 H6
    go_wp2_with fail
    refine H7.out.mono ?_
    rintro e w' ⟨rfl, rfl⟩
    go_wp2_with fail
    refine H8.out.mono ?_
    rintro e w' ⟨rfl, rfl⟩
    go_wp2_with fail
    refine H9.out.mono ?_
    rintro e w' ⟨rfl, rfl⟩
    obtain ⟨cv, hcv⟩ : ∃ cv, cmpZ (X + (X + X)) Y = cv := ⟨_, rfl⟩
    have b9 : decide (0 < cv) = true := decide_eq_true (by rw [← hcv, cmpZ_gt (by have := F5.out; omega)]; decide)
    have Hc := Lib.hid (rcmp_v cv A8 m8 c8 hs A6 m6 c6 fs w6 HW.out.1 HV.out.1 HW.out.2.1 HV.out.2.1 (by omega) (by omega) (by show _ = _; rw [HW.out.2.2, HV.out.2.2]; exact hcv))
    clear hcv HW
    go_wp2_with fail
    refine Hc.out.mono ?_
    rintro e w7 ⟨rfl, hB7⟩
    replace HS := Lib.hid (HS.out.trans (hB7.mono HS.out.size))
    clear hB7 Hc
    have Hfin := Lib.hid HS.out
    clear HS HU HV H7
    go_wp2
    go_ret
    exact ⟨rfl, Hfin.out⟩
  · go_wp2_with fail
    refine H2.out.mono ?_
    rintro e w2 ⟨A1, m1, c1, zs, A2, m2, c2, us, r, rfl, hm1, hm2, hl1, hl2, hB2, hq⟩
    obtain ⟨rfl, rfl, rfl⟩ : r = 1 ∧ m1 = 0 ∧ m2 = 0 := by
      rcases hq with ⟨h, _⟩ | ⟨_, h1, h2, h3⟩
      · exact absurd h no
      · exact ⟨h1, h2, h3⟩
    clear hq
    replace HA := Lib.hid (HA.out.below hB2)
    replace HB := Lib.hid (HB.out.below hB2)
    replace HS := Lib.hid (HS.out.trans (hB2.mono HS.out.size))
    have H3 := to_any A n c xs w2 HA.out (by omega)
    rw [HX.out] at H3
    replace H3 := Lib.hid H3
    clear hl1 hl2 H2 hm1 hm2 hB2
    go_wp2_with fail
    refine H3.out.mono ?_
    rintro e w3 ⟨A5, m5, c5, es, rfl, hm5, hl5, hb5, hv5, hB3⟩
    have HU : Hid (Dig w3 A5 m5 c5 es ∧ D.Bare es ∧ D.val es = X) := ⟨hl5, hb5, hv5⟩
    replace HS := Lib.hid (HS.out.trans (hB3.mono HS.out.size))
    have H4 := to_any B m d ys w3 (HB.out.below hB3) (by omega)
    rw [HY.out] at H4
    replace H4 := Lib.hid H4
    clear hl5 hb5 hv5 hB3 H3 HA HB
    go_wp2_with fail
    refine H4.out.mono ?_
    rintro e w4 ⟨A6, m6, c6, fs, rfl, hm6, hl6, hb6, hv6, hB4⟩
    replace HU : Hid (Dig w4 A5 m5 c5 es ∧ D.Bare es ∧ D.val es = X) := ⟨HU.out.1.below hB4, HU.out.2⟩
    have HV : Hid (Dig w4 A6 m6 c6 fs ∧ D.Bare fs ∧ D.val fs = Y) := ⟨hl6, hb6, hv6⟩
    replace HS := Lib.hid (HS.out.trans (hB4.mono HS.out.size))
    have H5 := radd_any A5 m5 c5 es A5 m5 c5 es w4 HU.out.1 HU.out.1 HU.out.2.1 HU.out.2.1 (by omega) (by omega)
    rw [HU.out.2.2] at H5
    replace H5 := Lib.hid H5
    have hm60 : m6 ≠ 0 := digs_pos hl6 (by rw [hv6]; exact F4.out)
    have c60 : ((m6 : Int) == 0) = false := beq_no (by omega)
    clear hl6 hb6 hv6 hB4 H4
    go_wp2_with fail
    refine H5.out.mono ?_
    rintro e w5 ⟨A7, m7, c7, gs, rfl, hm7, hl7, hb7, hv7, hB5⟩
    replace HU : Hid (Dig w5 A5 m5 c5 es ∧ D.Bare es ∧ D.val es = X) := ⟨HU.out.1.below hB5, HU.out.2⟩
    replace HV : Hid (Dig w5 A6 m6 c6 fs ∧ D.Bare fs ∧ D.val fs = Y) := ⟨HV.out.1.below hB5, HV.out.2⟩
    replace HS := Lib.hid (HS.out.trans (hB5.mono HS.out.size))
    have H6 := radd_any A5 m5 c5 es A7 m7 c7 gs w5 HU.out.1 hl7 HU.out.2.1 hb7 (by omega) (by omega)
    rw [HU.out.2.2, hv7] at H6
    replace H6 := Lib.hid H6
    clear hl7 hb7 hv7 hB5 H5
    go_wp2_with fail
    refine H6.out.mono ?_
    rintro e w6 ⟨A8, m8, c8, hs, rfl, hm8, hl8, hb8, hv8, hB6⟩
    replace HU : Hid (Dig w6 A5 m5 c5 es ∧ D.Bare es ∧ D.val es = X) := ⟨HU.out.1.below hB6, HU.out.2⟩
    replace HV : Hid (Dig w6 A6 m6 c6 fs ∧ D.Bare fs ∧ D.val fs = Y) := ⟨HV.out.1.below hB6, HV.out.2⟩
    have HW : Hid (Dig w6 A8 m8 c8 hs ∧ D.Bare hs ∧ D.val hs = X + (X + X)) := ⟨hl8, hb8, hv8⟩
    replace HS := Lib.hid (HS.out.trans (hB6.mono HS.out.size))
    have H7 := Lib.hid (HR.out w6 Hr.out)
    have H8 := rbits_any A5 m5 c5 es w6 HU.out.1 HU.out.2.1 (by omega)
    rw [HU.out.2.2, Hbx.out] at H8
    replace H8 := Lib.hid H8
    have H9 := rbits_any A6 m6 c6 fs w6 HV.out.1 HV.out.2.1 (by omega)
    rw [HV.out.2.2, HbY.out] at H9
    replace H9 := Lib.hid H9
    clear hl8 hb8 hv8 hB6 H6
    go_wp2_with fail
    refine H7.out.mono ?_
    rintro e w' ⟨rfl, rfl⟩
    go_wp2_with fail
    refine H8.out.mono ?_
    rintro e w' ⟨rfl, rfl⟩
    go_wp2_with fail
    refine H9.out.mono ?_
    rintro e w' ⟨rfl, rfl⟩
    obtain ⟨cv, hcv⟩ : ∃ cv, cmpZ (X + (X + X)) Y = cv := ⟨_, rfl⟩
    have b9 : decide (0 < cv) = true := decide_eq_true (by rw [← hcv, cmpZ_gt (by have := F5.out; omega)]; decide)
    have Hc := Lib.hid (rcmp_v cv A8 m8 c8 hs A6 m6 c6 fs w6 HW.out.1 HV.out.1 HW.out.2.1 HV.out.2.1 (by omega) (by omega) (by show _ = _; rw [HW.out.2.2, HV.out.2.2]; exact hcv))
    clear hcv HW
    go_wp2_with fail
    refine Hc.out.mono ?_
    rintro e w7 ⟨rfl, hB7⟩
    replace HS := Lib.hid (HS.out.trans (hB7.mono HS.out.size))
    clear hB7 Hc
    have Hfin := Lib.hid HS.out
    clear HS HU HV H7
    go_wp2
    go_ret
    exact ⟨rfl, Hfin.out⟩

set_option maxHeartbeats 2000000 in
set_option maxRecDepth 20000 in
theorem satanh_ok (HAt : AtanhMeets) (HLn : Ln2Meets) (A : Option Addr) (n c : Nat) (xs : List Nat) (B : Option Addr) (m d : Nat) (ys : List Nat) (s : Int) (w : World) (hT : Tab w) (hA : Lim w A n c xs) (hB : Lim w B m d ys) (hn : n ≤ 70) (hm : m ≤ 70) (hg : n ≤ 6 ∨ s ≤ 100) (hs1 : -9223372036854775808 ≤ s) (hs2 : s ≤ 9223372036854775807) (f1 : 8 ≤ s ∧ s ≤ 9000) (f2 : blen (val xs) ≤ 4096) (f3 : blen (val ys) ≤ 4096) (f4 : val ys ≠ 0) (f5 : 3 * val xs ≤ val ys) :
    Calls Tryd.prog 3 #[.slice A n c, .slice B m d, .int .i64 s] w fun e w' => e = .returned (.bool true) ∧ Below w.heap.size w w' := by
  have ok : AtOk (val xs) (val ys) s := ⟨f1, f2, f3, f4, f5⟩
  have H1 := Lib.hid (salive_any HLn w hT)
  have HA := Lib.hid hA
  have HB := Lib.hid hB
  have HT := Lib.hid hT
  have HM := Lib.hid HAt
  obtain ⟨X, hX⟩ : ∃ X, val xs = X := ⟨_, rfl⟩
  obtain ⟨Y, hY⟩ : ∃ Y, val ys = Y := ⟨_, rfl⟩
  have HX := Lib.hid hX
  have HY := Lib.hid hY
  have Hs : Hid (-9223372036854775808 ≤ s ∧ s ≤ 9223372036854775807) := ⟨hs1, hs2⟩
  have t1 : decide ((70 : Int) < (n : Int)) = false := decide_eq_false (by omega)
  have t1n : decide (70 < n) = false := decide_eq_false (by omega)
  have t2 : decide ((70 : Int) < (m : Int)) = false := decide_eq_false (by omega)
  have t2n : decide (70 < m) = false := decide_eq_false (by omega)
  obtain ⟨u3, hu3⟩ : ∃ u, decide (6 < n) = u := ⟨_, rfl⟩
  have t3 : decide ((6 : Int) < (n : Int)) = u3 := by rw [← hu3]; exact decide_eq_decide.2 (by omega)
  obtain ⟨u4, hu4⟩ : ∃ u, decide ((100 : Int) < s) = u := ⟨_, rfl⟩
  have hu : u3 = false ∨ (u3 = true ∧ u4 = false) := by
    rcases hg with h | h
    · exact Or.inl (by rw [← hu3]; exact decide_eq_false (by omega))
    · rw [← hu4, decide_eq_false (show ¬ (100 : Int) < s by omega)]
      cases u3
      · exact Or.inl rfl
      · exact Or.inr ⟨rfl, rfl⟩
  have HR := Lib.hid (right_l s true)
  have Hr : Hid (decide (8 ≤ s ∧ s ≤ 9000) = true) := decide_eq_true f1
  obtain ⟨bx, hbx⟩ : ∃ b, blen (val xs) = b := ⟨_, rfl⟩
  rw [hbx] at f2
  rw [hX] at hbx
  have Hbx := Lib.hid hbx
  have t5 : decide ((4096 : Int) < (bx : Int)) = false := decide_eq_false (by omega)
  have t5n : decide (4096 < bx) = false := decide_eq_false (by omega)
  obtain ⟨bY, hbY⟩ : ∃ b, blen (val ys) = b := ⟨_, rfl⟩
  rw [hbY] at f3
  rw [hY] at hbY
  have HbY := Lib.hid hbY
  have t6 : decide ((4096 : Int) < (bY : Int)) = false := decide_eq_false (by omega)
  have t6n : decide (4096 < bY) = false := decide_eq_false (by omega)
  rw [hY] at f4
  have F4 := Lib.hid f4
  rw [hX, hY] at f5
  have F5 := Lib.hid f5
  obtain ⟨σ, rfl⟩ := Int.eq_ofNat_of_zero_le (show 0 ≤ s by have := f1.1; omega)
  have hσ : σ ≤ 9000 := by have := f1.2; omega
  obtain ⟨t64, ht64⟩ : ∃ t, σ + 64 = t := ⟨_, rfl⟩
  have e64 : (σ : Int) + 64 = (t64 : Int) := by omega
  obtain ⟨t80, ht80⟩ : ∃ t, σ + 80 = t := ⟨_, rfl⟩
  have e80 : (σ : Int) + 80 = (t80 : Int) := by omega
  have H64 := Lib.hid ht64
  have H80 := Lib.hid ht80
  have hf1 : (8 : Int) ≤ (σ : Int) := f1.1
  clear HLn HAt hT hA hB hX hY hs1 hs2 hg hu3 hbx f2 hbY f3 f4 f5 ht64 ht80 f1
  go_enter Tryd.func3, Tryd.ntmps3
  go_wp2_with fail
  refine H1.out.mono ?_
  rintro e w1 ⟨rfl, hB1⟩
  have HS := Lib.hid hB1
  replace HT := Lib.hid (HT.out.below hB1)
  replace HA := Lib.hid (HA.out.below hB1)
  replace HB := Lib.hid (HB.out.below hB1)
  have H2 := Lib.hid (HM.out A n c xs B m d ys (σ : Int) w1 HA.out HB.out hn hm HT.out Hs.out.1 Hs.out.2)
  clear hB1 H1 HM Hs
  rcases hu with rfl | ⟨rfl, rfl⟩
  · go_wp2_with fail
    refine H2.out.mono ?_
    rintro e w2 ⟨A1, m1, c1, zs, A2, m2, c2, us, r, rfl, hm1, hm2, hl1, hl2, hB2, hq⟩
    obtain ⟨rfl, hq1, hq2, hq3⟩ : r = 0 ∧ AtB (val xs) (val ys) σ (val zs) (val us) ∧ val zs ≤ val us ∧ val us - val zs ≤ σ + 64 := by
      rcases hq with ⟨_, h1, h2, h3, h4⟩ | ⟨h, _⟩
      · rw [Int.toNat_natCast] at h2 h4; exact ⟨h1, h2, h3, h4⟩
      · exact absurd ok h
    rw [HX.out, HY.out] at hq1
    have HQ := Lib.hid hq1
    have HO : Hid (val zs ≤ val us ∧ val us - val zs ≤ t64) := ⟨hq2, by rw [← H64.out]; exact hq3⟩
    have HZ : Hid (Lim w2 A1 m1 c1 zs ∧ Lim w2 A2 m2 c2 us) := ⟨hl1, hl2⟩
    clear hq hq1 hq2 hq3
    replace HA := Lib.hid (HA.out.below hB2)
    replace HB := Lib.hid (HB.out.below hB2)
    replace HS := Lib.hid (HS.out.trans (hB2.mono HS.out.size))
    have H3 := to_any A n c xs w2 HA.out (by omega)
    rw [HX.out] at H3
    replace H3 := Lib.hid H3
    clear hl1 hl2 H2 hB2
    go_wp2_with fail
    refine H3.out.mono ?_
    rintro e w3 ⟨A5, m5, c5, es, rfl, hm5, hl5, hb5, hv5, hB3⟩
    have HU : Hid (Dig w3 A5 m5 c5 es ∧ D.Bare es ∧ D.val es = X) := ⟨hl5, hb5, hv5⟩
    replace HS := Lib.hid (HS.out.trans (hB3.mono HS.out.size))
    replace HZ : Hid (Lim w3 A1 m1 c1 zs ∧ Lim w3 A2 m2 c2 us) := ⟨HZ.out.1.below hB3, HZ.out.2.below hB3⟩
    have H4 := to_any B m d ys w3 (HB.out.below hB3) (by omega)
    rw [HY.out] at H4
    replace H4 := Lib.hid H4
    clear hl5 hb5 hv5 hB3 H3 HA HB
    go_wp2_with fail
    refine H4.out.mono ?_
    rintro e w4 ⟨A6, m6, c6, fs, rfl, hm6, hl6, hb6, hv6, hB4⟩
    replace HU : Hid (Dig w4 A5 m5 c5 es ∧ D.Bare es ∧ D.val es = X) := ⟨HU.out.1.below hB4, HU.out.2⟩
    have HV : Hid (Dig w4 A6 m6 c6 fs ∧ D.Bare fs ∧ D.val fs = Y) := ⟨hl6, hb6, hv6⟩
    replace HS := Lib.hid (HS.out.trans (hB4.mono HS.out.size))
    replace HZ : Hid (Lim w4 A1 m1 c1 zs ∧ Lim w4 A2 m2 c2 us) := ⟨HZ.out.1.below hB4, HZ.out.2.below hB4⟩
    have H5 := radd_any A5 m5 c5 es A5 m5 c5 es w4 HU.out.1 HU.out.1 HU.out.2.1 HU.out.2.1 (by omega) (by omega)
    rw [HU.out.2.2] at H5
    replace H5 := Lib.hid H5
    have hm60 : m6 ≠ 0 := digs_pos hl6 (by rw [hv6]; exact F4.out)
    have c60 : ((m6 : Int) == 0) = false := beq_no (by omega)
    clear hl6 hb6 hv6 hB4 H4
    go_wp2_with fail
    refine H5.out.mono ?_
    rintro e w5 ⟨A7, m7, c7, gs, rfl, hm7, hl7, hb7, hv7, hB5⟩
    replace HU : Hid (Dig w5 A5 m5 c5 es ∧ D.Bare es ∧ D.val es = X) := ⟨HU.out.1.below hB5, HU.out.2⟩
    replace HV : Hid (Dig w5 A6 m6 c6 fs ∧ D.Bare fs ∧ D.val fs = Y) := ⟨HV.out.1.below hB5, HV.out.2⟩
    replace HS := Lib.hid (HS.out.trans (hB5.mono HS.out.size))
    replace HZ : Hid (Lim w5 A1 m1 c1 zs ∧ Lim w5 A2 m2 c2 us) := ⟨HZ.out.1.below hB5, HZ.out.2.below hB5⟩
    have H6 := radd_any A5 m5 c5 es A7 m7 c7 gs w5 HU.out.1 hl7 HU.out.2.1 hb7 (by omega) (by omega)
    rw [HU.out.2.2, hv7] at H6
    replace H6 := Lib.hid H6
    clear hl7 hb7 hv7 hB5 H5
    go_wp2_with fail
    refine H6.out.mono ?_
    rintro e w6 ⟨A8, m8, c8, hs, rfl, hm8, hl8, hb8, hv8, hB6⟩
    replace HU : Hid (Dig w6 A5 m5 c5 es ∧ D.Bare es ∧ D.val es = X) := ⟨HU.out.1.below hB6, HU.out.2⟩
    replace HV : Hid (Dig w6 A6 m6 c6 fs ∧ D.Bare fs ∧ D.val fs = Y) := ⟨HV.out.1.below hB6, HV.out.2⟩
    have HW : Hid (Dig w6 A8 m8 c8 hs ∧ D.Bare hs ∧ D.val hs = X + (X + X)) := ⟨hl8, hb8, hv8⟩
    replace HS := Lib.hid (HS.out.trans (hB6.mono HS.out.size))
    replace HZ : Hid (Lim w6 A1 m1 c1 zs ∧ Lim w6 A2 m2 c2 us) := ⟨HZ.out.1.below hB6, HZ.out.2.below hB6⟩
    have H7 := Lib.hid (HR.out w6 Hr.out)
    have H8 := rbits_any A5 m5 c5 es w6 HU.out.1 HU.out.2.1 (by omega)
    rw [HU.out.2.2, Hbx.out] at H8
    replace H8 := Lib.hid H8
    have H9 := rbits_any A6 m6 c6 fs w6 HV.out.1 HV.out.2.1 (by omega)
    rw [HV.out.2.2, HbY.out] at H9
    replace H9 := Lib.hid H9
    clear hl8 hb8 hv8 hB6 H6
    go_wp2_with fail
    refine H7.out.mono ?_
    rintro e w' ⟨rfl, rfl⟩
    go_wp2_with fail
    refine H8.out.mono ?_
    rintro e w' ⟨rfl, rfl⟩
    go_wp2_with fail
    refine H9.out.mono ?_
    rintro e w' ⟨rfl, rfl⟩
    obtain ⟨cv, hcv⟩ : ∃ cv, cmpZ (X + (X + X)) Y = cv := ⟨_, rfl⟩
    have b9 : decide (0 < cv) = false := decide_eq_false (by rw [← hcv]; have := cmpZ_down (show X + (X + X) ≤ Y by have := F5.out; omega); omega)
    have Hc := Lib.hid (rcmp_v cv A8 m8 c8 hs A6 m6 c6 fs w6 HW.out.1 HV.out.1 HW.out.2.1 HV.out.2.1 (by omega) (by omega) (by show _ = _; rw [HW.out.2.2, HV.out.2.2]; exact hcv))
    clear hcv HW
    go_wp2_with fail
    refine Hc.out.mono ?_
    rintro e w7 ⟨rfl, hB7⟩
    replace HS := Lib.hid (HS.out.trans (hB7.mono HS.out.size))
    replace HZ : Hid (Lim w7 A1 m1 c1 zs ∧ Lim w7 A2 m2 c2 us) := ⟨HZ.out.1.below hB7, HZ.out.2.below hB7⟩
    replace HU : Hid (Dig w7 A5 m5 c5 es ∧ D.Bare es ∧ D.val es = X) := ⟨HU.out.1.below hB7, HU.out.2⟩
    replace HV : Hid (Dig w7 A6 m6 c6 fs ∧ D.Bare fs ∧ D.val fs = Y) := ⟨HV.out.1.below hB7, HV.out.2⟩
    have H10 := Lib.hid (wide_yes A1 m1 c1 zs A2 m2 c2 us t64 w7 HZ.out.1 HZ.out.2 (by omega) (by omega) (by have := H64.out; omega) HO.out.1 HO.out.2)
    clear hB7 Hc
    go_wp2_with fail
    refine H10.out.mono ?_
    rintro e w8 ⟨rfl, hB8⟩
    replace HS := Lib.hid (HS.out.trans (hB8.mono HS.out.size))
    by_cases h500 : 500 < σ
    · have b10 : decide (500 < σ) = true := decide_eq_true h500
      have b11 : decide ((500 : Int) < (σ : Int)) = true := decide_eq_true (by omega)
      have Hfin := Lib.hid HS.out
      clear HS HU HV H7 H8 H9 H10 HZ HO HQ hB8 h500
      go_wp2
      go_ret
      exact ⟨rfl, Hfin.out⟩
    · have b10 : decide (500 < σ) = false := decide_eq_false h500
      have b11 : decide ((500 : Int) < (σ : Int)) = false := decide_eq_false (by omega)
      have H11 := ratanh_l t80 A5 m5 c5 es A6 m6 c6 fs w8 (HU.out.1.below hB8) (HV.out.1.below hB8) HU.out.2.1 HV.out.2.1 (by omega) (by omega) (by have := H80.out; omega) (by rw [HV.out.2.2]; exact F4.out) (by rw [HV.out.2.2, HU.out.2.2]; exact F5.out)
      rw [HU.out.2.2, HV.out.2.2] at H11
      have hh := at_holds F4.out F5.out HQ.out
      rw [H80.out] at hh
      obtain ⟨V, hV⟩ : ∃ V, dA (2 ^ t80) X Y (t80 / 3 + 3) = V := ⟨_, rfl⟩
      rw [hV] at H11 hh
      have HH := Lib.hid hh
      replace H11 := Lib.hid H11
      replace HZ : Hid (Lim w8 A1 m1 c1 zs ∧ Lim w8 A2 m2 c2 us) := ⟨HZ.out.1.below hB8, HZ.out.2.below hB8⟩
      clear hh hV hB8 H7 H8 H9 H10 h500 HU HV HQ HO
      go_wp2_with fail
      refine H11.out.mono ?_
      rintro e w9 ⟨A9, m9, c9, ks, rfl, hm9, hl9, hb9, hv9, hB9⟩
      have H12 := Lib.hid (holds_yes A1 m1 c1 zs A2 m2 c2 us A9 m9 c9 ks V w9 (HZ.out.1.below hB9) (HZ.out.2.below hB9) hl9 hb9 hv9 hm1 hm2 (by omega) HH.out.1 HH.out.2)
      replace HS := Lib.hid (HS.out.trans (hB9.mono HS.out.size))
      clear hl9 hb9 hv9 hB9 H11 HZ HH
      go_wp2_with fail
      refine H12.out.mono ?_
      rintro e w10 ⟨rfl, hB10⟩
      have Hfin := Lib.hid (HS.out.trans (hB10.mono HS.out.size))
      clear HS H12 hB10
      go_wp2
      go_ret
      exact ⟨rfl, Hfin.out⟩
  · go_wp2_with fail
    refine H2.out.mono ?_
    rintro e w2 ⟨A1, m1, c1, zs, A2, m2, c2, us, r, rfl, hm1, hm2, hl1, hl2, hB2, hq⟩
    obtain ⟨rfl, hq1, hq2, hq3⟩ : r = 0 ∧ AtB (val xs) (val ys) σ (val zs) (val us) ∧ val zs ≤ val us ∧ val us - val zs ≤ σ + 64 := by
      rcases hq with ⟨_, h1, h2, h3, h4⟩ | ⟨h, _⟩
      · rw [Int.toNat_natCast] at h2 h4; exact ⟨h1, h2, h3, h4⟩
      · exact absurd ok h
    rw [HX.out, HY.out] at hq1
    have HQ := Lib.hid hq1
    have HO : Hid (val zs ≤ val us ∧ val us - val zs ≤ t64) := ⟨hq2, by rw [← H64.out]; exact hq3⟩
    have HZ : Hid (Lim w2 A1 m1 c1 zs ∧ Lim w2 A2 m2 c2 us) := ⟨hl1, hl2⟩
    clear hq hq1 hq2 hq3
    replace HA := Lib.hid (HA.out.below hB2)
    replace HB := Lib.hid (HB.out.below hB2)
    replace HS := Lib.hid (HS.out.trans (hB2.mono HS.out.size))
    have H3 := to_any A n c xs w2 HA.out (by omega)
    rw [HX.out] at H3
    replace H3 := Lib.hid H3
    clear hl1 hl2 H2 hB2
    go_wp2_with fail
    refine H3.out.mono ?_
    rintro e w3 ⟨A5, m5, c5, es, rfl, hm5, hl5, hb5, hv5, hB3⟩
    have HU : Hid (Dig w3 A5 m5 c5 es ∧ D.Bare es ∧ D.val es = X) := ⟨hl5, hb5, hv5⟩
    replace HS := Lib.hid (HS.out.trans (hB3.mono HS.out.size))
    replace HZ : Hid (Lim w3 A1 m1 c1 zs ∧ Lim w3 A2 m2 c2 us) := ⟨HZ.out.1.below hB3, HZ.out.2.below hB3⟩
    have H4 := to_any B m d ys w3 (HB.out.below hB3) (by omega)
    rw [HY.out] at H4
    replace H4 := Lib.hid H4
    clear hl5 hb5 hv5 hB3 H3 HA HB
    go_wp2_with fail
    refine H4.out.mono ?_
    rintro e w4 ⟨A6, m6, c6, fs, rfl, hm6, hl6, hb6, hv6, hB4⟩
    replace HU : Hid (Dig w4 A5 m5 c5 es ∧ D.Bare es ∧ D.val es = X) := ⟨HU.out.1.below hB4, HU.out.2⟩
    have HV : Hid (Dig w4 A6 m6 c6 fs ∧ D.Bare fs ∧ D.val fs = Y) := ⟨hl6, hb6, hv6⟩
    replace HS := Lib.hid (HS.out.trans (hB4.mono HS.out.size))
    replace HZ : Hid (Lim w4 A1 m1 c1 zs ∧ Lim w4 A2 m2 c2 us) := ⟨HZ.out.1.below hB4, HZ.out.2.below hB4⟩
    have H5 := radd_any A5 m5 c5 es A5 m5 c5 es w4 HU.out.1 HU.out.1 HU.out.2.1 HU.out.2.1 (by omega) (by omega)
    rw [HU.out.2.2] at H5
    replace H5 := Lib.hid H5
    have hm60 : m6 ≠ 0 := digs_pos hl6 (by rw [hv6]; exact F4.out)
    have c60 : ((m6 : Int) == 0) = false := beq_no (by omega)
    clear hl6 hb6 hv6 hB4 H4
    go_wp2_with fail
    refine H5.out.mono ?_
    rintro e w5 ⟨A7, m7, c7, gs, rfl, hm7, hl7, hb7, hv7, hB5⟩
    replace HU : Hid (Dig w5 A5 m5 c5 es ∧ D.Bare es ∧ D.val es = X) := ⟨HU.out.1.below hB5, HU.out.2⟩
    replace HV : Hid (Dig w5 A6 m6 c6 fs ∧ D.Bare fs ∧ D.val fs = Y) := ⟨HV.out.1.below hB5, HV.out.2⟩
    replace HS := Lib.hid (HS.out.trans (hB5.mono HS.out.size))
    replace HZ : Hid (Lim w5 A1 m1 c1 zs ∧ Lim w5 A2 m2 c2 us) := ⟨HZ.out.1.below hB5, HZ.out.2.below hB5⟩
    have H6 := radd_any A5 m5 c5 es A7 m7 c7 gs w5 HU.out.1 hl7 HU.out.2.1 hb7 (by omega) (by omega)
    rw [HU.out.2.2, hv7] at H6
    replace H6 := Lib.hid H6
    clear hl7 hb7 hv7 hB5 H5
    go_wp2_with fail
    refine H6.out.mono ?_
    rintro e w6 ⟨A8, m8, c8, hs, rfl, hm8, hl8, hb8, hv8, hB6⟩
    replace HU : Hid (Dig w6 A5 m5 c5 es ∧ D.Bare es ∧ D.val es = X) := ⟨HU.out.1.below hB6, HU.out.2⟩
    replace HV : Hid (Dig w6 A6 m6 c6 fs ∧ D.Bare fs ∧ D.val fs = Y) := ⟨HV.out.1.below hB6, HV.out.2⟩
    have HW : Hid (Dig w6 A8 m8 c8 hs ∧ D.Bare hs ∧ D.val hs = X + (X + X)) := ⟨hl8, hb8, hv8⟩
    replace HS := Lib.hid (HS.out.trans (hB6.mono HS.out.size))
    replace HZ : Hid (Lim w6 A1 m1 c1 zs ∧ Lim w6 A2 m2 c2 us) := ⟨HZ.out.1.below hB6, HZ.out.2.below hB6⟩
    have H7 := Lib.hid (HR.out w6 Hr.out)
    have H8 := rbits_any A5 m5 c5 es w6 HU.out.1 HU.out.2.1 (by omega)
    rw [HU.out.2.2, Hbx.out] at H8
    replace H8 := Lib.hid H8
    have H9 := rbits_any A6 m6 c6 fs w6 HV.out.1 HV.out.2.1 (by omega)
    rw [HV.out.2.2, HbY.out] at H9
    replace H9 := Lib.hid H9
    clear hl8 hb8 hv8 hB6 H6
    go_wp2_with fail
    refine H7.out.mono ?_
    rintro e w' ⟨rfl, rfl⟩
    go_wp2_with fail
    refine H8.out.mono ?_
    rintro e w' ⟨rfl, rfl⟩
    go_wp2_with fail
    refine H9.out.mono ?_
    rintro e w' ⟨rfl, rfl⟩
    obtain ⟨cv, hcv⟩ : ∃ cv, cmpZ (X + (X + X)) Y = cv := ⟨_, rfl⟩
    have b9 : decide (0 < cv) = false := decide_eq_false (by rw [← hcv]; have := cmpZ_down (show X + (X + X) ≤ Y by have := F5.out; omega); omega)
    have Hc := Lib.hid (rcmp_v cv A8 m8 c8 hs A6 m6 c6 fs w6 HW.out.1 HV.out.1 HW.out.2.1 HV.out.2.1 (by omega) (by omega) (by show _ = _; rw [HW.out.2.2, HV.out.2.2]; exact hcv))
    clear hcv HW
    go_wp2_with fail
    refine Hc.out.mono ?_
    rintro e w7 ⟨rfl, hB7⟩
    replace HS := Lib.hid (HS.out.trans (hB7.mono HS.out.size))
    replace HZ : Hid (Lim w7 A1 m1 c1 zs ∧ Lim w7 A2 m2 c2 us) := ⟨HZ.out.1.below hB7, HZ.out.2.below hB7⟩
    replace HU : Hid (Dig w7 A5 m5 c5 es ∧ D.Bare es ∧ D.val es = X) := ⟨HU.out.1.below hB7, HU.out.2⟩
    replace HV : Hid (Dig w7 A6 m6 c6 fs ∧ D.Bare fs ∧ D.val fs = Y) := ⟨HV.out.1.below hB7, HV.out.2⟩
    have H10 := Lib.hid (wide_yes A1 m1 c1 zs A2 m2 c2 us t64 w7 HZ.out.1 HZ.out.2 (by omega) (by omega) (by have := H64.out; omega) HO.out.1 HO.out.2)
    clear hB7 Hc
    go_wp2_with fail
    refine H10.out.mono ?_
    rintro e w8 ⟨rfl, hB8⟩
    replace HS := Lib.hid (HS.out.trans (hB8.mono HS.out.size))
    by_cases h500 : 500 < σ
    · have b10 : decide (500 < σ) = true := decide_eq_true h500
      have b11 : decide ((500 : Int) < (σ : Int)) = true := decide_eq_true (by omega)
      have Hfin := Lib.hid HS.out
      clear HS HU HV H7 H8 H9 H10 HZ HO HQ hB8 h500
      go_wp2
      go_ret
      exact ⟨rfl, Hfin.out⟩
    · have b10 : decide (500 < σ) = false := decide_eq_false h500
      have b11 : decide ((500 : Int) < (σ : Int)) = false := decide_eq_false (by omega)
      have H11 := ratanh_l t80 A5 m5 c5 es A6 m6 c6 fs w8 (HU.out.1.below hB8) (HV.out.1.below hB8) HU.out.2.1 HV.out.2.1 (by omega) (by omega) (by have := H80.out; omega) (by rw [HV.out.2.2]; exact F4.out) (by rw [HV.out.2.2, HU.out.2.2]; exact F5.out)
      rw [HU.out.2.2, HV.out.2.2] at H11
      have hh := at_holds F4.out F5.out HQ.out
      rw [H80.out] at hh
      obtain ⟨V, hV⟩ : ∃ V, dA (2 ^ t80) X Y (t80 / 3 + 3) = V := ⟨_, rfl⟩
      rw [hV] at H11 hh
      have HH := Lib.hid hh
      replace H11 := Lib.hid H11
      replace HZ : Hid (Lim w8 A1 m1 c1 zs ∧ Lim w8 A2 m2 c2 us) := ⟨HZ.out.1.below hB8, HZ.out.2.below hB8⟩
      clear hh hV hB8 H7 H8 H9 H10 h500 HU HV HQ HO
      go_wp2_with fail
      refine H11.out.mono ?_
      rintro e w9 ⟨A9, m9, c9, ks, rfl, hm9, hl9, hb9, hv9, hB9⟩
      have H12 := Lib.hid (holds_yes A1 m1 c1 zs A2 m2 c2 us A9 m9 c9 ks V w9 (HZ.out.1.below hB9) (HZ.out.2.below hB9) hl9 hb9 hv9 hm1 hm2 (by omega) HH.out.1 HH.out.2)
      replace HS := Lib.hid (HS.out.trans (hB9.mono HS.out.size))
      clear hl9 hb9 hv9 hB9 H11 HZ HH
      go_wp2_with fail
      refine H12.out.mono ?_
      rintro e w10 ⟨rfl, hB10⟩
      have Hfin := Lib.hid (HS.out.trans (hB10.mono HS.out.size))
      clear HS H12 hB10
      go_wp2
      go_ret
      exact ⟨rfl, Hfin.out⟩

theorem walk_seriesAtanh' (HAt : AtanhMeets) (HLn : Ln2Meets) (A : Option Addr) (n c : Nat) (xs : List Nat) (B : Option Addr) (m d : Nat) (ys : List Nat) (s : Int) (w : World) (hT : Tab w) (hA : Lim w A n c xs) (hB : Lim w B m d ys) (hs1 : -9223372036854775808 ≤ s) (hs2 : s ≤ 9223372036854775807) :
    Calls Tryd.prog 3 #[.slice A n c, .slice B m d, .int .i64 s] w fun e w' => e = .returned (.bool true) ∧ Below w.heap.size w w' := by
  by_cases h : 70 < n ∨ 70 < m ∨ (6 < n ∧ 100 < s)
  · exact satanh_skip HLn A n c B m d s w hT h
  have hn : n ≤ 70 := by omega
  have hm : m ≤ 70 := by omega
  have hg : n ≤ 6 ∨ s ≤ 100 := by omega
  by_cases f1 : 8 ≤ s ∧ s ≤ 9000
  · by_cases f2 : blen (val xs) ≤ 4096
    · by_cases f3 : blen (val ys) ≤ 4096
      · by_cases f4 : val ys = 0
        · exact satanh_Z HAt HLn A n c xs B m d ys s w hT hA hB hn hm hg hs1 hs2 f1 f2 f3 f4
        · by_cases f5 : 3 * val xs ≤ val ys
          · exact satanh_ok HAt HLn A n c xs B m d ys s w hT hA hB hn hm hg hs1 hs2 f1 f2 f3 f4 f5
          · exact satanh_T HAt HLn A n c xs B m d ys s w hT hA hB hn hm hg hs1 hs2 f1 f2 f3 f4 (by omega)
      · exact satanh_Y HAt HLn A n c xs B m d ys s w hT hA hB hn hm hg hs1 hs2 f1 f2 (by omega)
    · exact satanh_X HAt HLn A n c xs B m d ys s w hT hA hB hn hm hg hs1 hs2 f1 (by omega)
  · exact satanh_R HAt HLn A n c xs B m d ys s w hT hA hB hn hm hg hs1 hs2 f1
end Go.Proofs.YtngldpmnbdgkiaaDoor
