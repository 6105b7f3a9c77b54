/- What series.Atanh and Ln2 tell, a little more than the laws of layer 12 ask: of a fraction that is 0 both are 0; Ln2 tells the same each time. -/
import Derived.Test.YtijhdlkfihjbiaaDoorLgLog
import Derived.Test.YtijhdlkfihjbiaaDoorK4
namespace Go.Proofs.YtijhdlkfihjbiaaDoor
open Go.RowKit

set_option maxHeartbeats 2000000 in
theorem atanh_told (A : Option Addr) (n c : Nat) (xs : List Nat) (B : Option Addr) (m d : Nat) (ys : List Nat) (k : Nat) (w : World) (hA : Lim w A n c xs) (hB : Lim w B m d ys) (hn : n ≤ 70) (hm : m ≤ 70) (hT : Tab w) (hk1 : 8 ≤ k) (hk2 : k ≤ 9000) (h3 : Third (val xs) (val ys)) :
    Calls Tryd.prog 60 #[.slice A n c, .slice B m d, .int .i64 (k : Int)] w (TwoTold w fun _ lo _ hi r => r = 0 ∧ AtB (val xs) (val ys) k lo hi ∧ lo ≤ hi ∧ hi ≤ lo + 2 ∧ (val xs = 0 → lo = 0 ∧ hi = 0)) := by
  have H1 := Lib.hid (sscale_l (k : Int) true w (by show _ = _; exact decide_eq_true ⟨by omega, by omega⟩))
  have H2 := Lib.hid (sthird_l true A n c xs B m d ys w hA hB hn hm (by show _ = _; exact decide_eq_true h3))
  have HE : Hid (∀ g u, Below w.heap.size w u → Calls Tryd.prog 64 #[.bool g, .slice A n c, .slice B m d, .int .i64 (k : Int)] u (EndTold u (AtV g (val xs) (val ys) k))) := fun g u hu =>
    satanh_l g A n c xs B m d ys k u (hA.below hu) (hB.below hu) hn hm (hT.below hu) h3 (by omega)
  have HQ : Hid (∀ lo hi, AtV false (val xs) (val ys) k lo → AtV true (val xs) (val ys) k hi → AtB (val xs) (val ys) k lo hi ∧ lo ≤ hi ∧ hi ≤ lo + 2 ∧ (val xs = 0 → lo = 0 ∧ hi = 0)) :=
    fun lo hi g1 g2 => by
      obtain ⟨a1, a2, a3⟩ := at_both h3.2.2.1 h3.2.2.2 g1 g2
      refine ⟨a1, a2, a3, fun h0 => ?_⟩
      rw [h0] at g1 g2
      exact ⟨atv_zero g1, atv_zero g2⟩
  clear hA hB hT hk1 h3
  go_enter Tryd.func60, Tryd.ntmps60
  go_wp2_with fail
  refine H1.out.mono ?_
  rintro e w' ⟨rfl, rfl⟩
  go_wp2_with fail
  refine H2.out.mono ?_
  rintro e w1 ⟨rfl, hB1⟩
  have HS := Lib.hid hB1
  have H3 := Lib.hid (HE.out false w1 hB1)
  clear H1 H2 hB1
  go_wp2_with fail
  refine H3.out.mono ?_
  rintro e w2 ⟨A1, m1, c1, zs, rfl, hm1, hl1, hB2, hq1⟩
  replace HS := Lib.hid (HS.out.trans (hB2.mono HS.out.size))
  have H4 := Lib.hid (HE.out true w2 HS.out)
  have HL : Hid (Lim w2 A1 m1 c1 zs ∧ AtV false (val xs) (val ys) k (val zs)) := ⟨hl1, hq1⟩
  clear H3 hl1 hB2 hq1 HE
  go_wp2_with fail
  refine H4.out.mono ?_
  rintro e w3 ⟨A2, m2, c2, us, rfl, hm2, hl2, hB3, hq2⟩
  have Hfin : Hid (TwoTold w (fun _ lo _ hi r => r = 0 ∧ AtB (val xs) (val ys) k lo hi ∧ lo ≤ hi ∧ hi ≤ lo + 2 ∧ (val xs = 0 → lo = 0 ∧ hi = 0)) (.returned (.tuple #[.slice A1 m1 c1, .slice A2 m2 c2, .int .i64 0])) w3) :=
    ⟨A1, m1, c1, zs, A2, m2, c2, us, 0, rfl, hm1, hm2, HL.out.1.below hB3, hl2, HS.out.trans (hB3.mono HS.out.size), rfl, HQ.out _ _ HL.out.2 hq2⟩
  clear H4 HL HS HQ hl2 hB3 hq2
  go_wp2
  go_ret3
  exact Hfin.out

set_option maxHeartbeats 2000000 in
theorem ln2_told (k : Nat) (w : World) (hT : Tab w) (hk1 : 8 ≤ k) (hk2 : k ≤ 9000) :
    Calls Tryd.prog 42 #[.int .i64 (k : Int)] w (TwoTold w fun _ lo _ hi r => r = 0 ∧ AtV false 1 3 (k + 1) lo ∧ AtV true 1 3 (k + 1) hi) := by
  have H1 := Lib.hid (sscale_l (k : Int) true w (by show _ = _; exact decide_eq_true ⟨by omega, by omega⟩))
  obtain ⟨k1, hk1'⟩ : ∃ k1, k + 1 = k1 := ⟨_, rfl⟩
  have ek1 : (k : Int) + 1 = (k1 : Int) := by omega
  have hk9 : k1 ≤ 9001 := by omega
  have HE : Hid (∀ g u A1 m1 c1 zs A2 m2 c2 us, Tab u → Lim u A1 m1 c1 zs → Lim u A2 m2 c2 us → val zs = 1 → val us = 3 → m1 ≤ 1 → m2 ≤ 1 → Calls Tryd.prog 64 #[.bool g, .slice A1 m1 c1, .slice A2 m2 c2, .int .i64 (k1 : Int)] u (EndTold u (AtV g 1 3 k1))) := fun g u A1 m1 c1 zs A2 m2 c2 us g1 g2 g3 g4 g5 g6 g7 => by
    have h := satanh_l g A1 m1 c1 zs A2 m2 c2 us k1 u g2 g3 (by omega) (by omega) g1 (by rw [g4, g5]; exact ⟨by decide, by decide, by decide, by decide⟩) hk9
    rw [g4, g5] at h
    exact h
  have HO1 := Lib.hid (of_any 1 (by decide) w)
  have HT := Lib.hid hT
  have HK := Lib.hid hk1'
  clear hT hk1 hk1'
  go_enter Tryd.func42, Tryd.ntmps42
  go_wp2_with fail
  refine H1.out.mono ?_
  rintro e w' ⟨rfl, rfl⟩
  go_wp2_with fail
  refine HO1.out.mono ?_
  rintro e w1 ⟨A1, m1, c1, zs, rfl, hm1, hl1, hb1, hv1, hB1⟩
  have HS := Lib.hid hB1
  have HO2 := Lib.hid (of_any 3 (by decide) w1)
  have HA : Hid (Lim w1 A1 m1 c1 zs ∧ val zs = 1) := ⟨hl1, hv1⟩
  clear hl1 hb1 hv1 hB1 HO1 H1
  go_wp2_with fail
  refine HO2.out.mono ?_
  rintro e w2 ⟨A2, m2, c2, us, rfl, hm2, hl2, hb2, hv2, hB2⟩
  replace HS := Lib.hid (HS.out.trans (hB2.mono HS.out.size))
  replace HA : Hid (Lim w2 A1 m1 c1 zs ∧ val zs = 1) := ⟨HA.out.1.below hB2, HA.out.2⟩
  have HB : Hid (Lim w2 A2 m2 c2 us ∧ val us = 3) := ⟨hl2, hv2⟩
  have H3 := Lib.hid (HE.out false w2 A1 m1 c1 zs A2 m2 c2 us (HT.out.below HS.out) HA.out.1 HB.out.1 HA.out.2 HB.out.2 hm1 hm2)
  clear hl2 hb2 hv2 hB2 HO2
  go_wp2_with fail
  refine H3.out.mono ?_
  rintro e w3 ⟨A3, m3, c3, ts, rfl, hm3, hl3, hB3, hq3⟩
  replace HS := Lib.hid (HS.out.trans (hB3.mono HS.out.size))
  have H4 := Lib.hid (HE.out true w3 A1 m1 c1 zs A2 m2 c2 us (HT.out.below HS.out) (HA.out.1.below hB3) (HB.out.1.below hB3) HA.out.2 HB.out.2 hm1 hm2)
  have HL : Hid (Lim w3 A3 m3 c3 ts ∧ AtV false 1 3 k1 (val ts)) := ⟨hl3, hq3⟩
  clear H3 hl3 hB3 hq3 HE HA HB HT
  go_wp2_with fail
  refine H4.out.mono ?_
  rintro e w4 ⟨A4, m4, c4, vs, rfl, hm4, hl4, hB4, hq4⟩
  have Hfin : Hid (TwoTold w (fun _ lo _ hi r => r = 0 ∧ AtV false 1 3 (k + 1) lo ∧ AtV true 1 3 (k + 1) hi) (.returned (.tuple #[.slice A3 m3 c3, .slice A4 m4 c4, .int .i64 0])) w4) :=
    ⟨A3, m3, c3, ts, A4, m4, c4, vs, 0, rfl, hm3, hm4, HL.out.1.below hB4, hl4, HS.out.trans (hB4.mono HS.out.size), rfl, by rw [HK.out]; exact HL.out.2, by rw [HK.out]; exact hq4⟩
  clear H4 HL HS HK hl4 hB4 hq4
  go_wp2
  go_ret3
  exact Hfin.out
end Go.Proofs.YtijhdlkfihjbiaaDoor
