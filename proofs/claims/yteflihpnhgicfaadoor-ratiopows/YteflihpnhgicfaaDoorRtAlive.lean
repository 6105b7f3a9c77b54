/- The law's example. -/
import Derived.Test.YteflihpnhgicfaaDoorRtCmp
namespace Go.Proofs.YteflihpnhgicfaaDoor
open Go.RowKit

theorem alive_one : cmpR (mk false 1 1) 10 (mk false 125 3) 1 = (1, 0) := by decide
theorem alive_two : cmpR (mk false 1 1) 10 (mk false 0 0) 1 = (0, 1) := by decide
set_option maxHeartbeats 1000000 in
theorem ralive_any (w : World) (hT : Tab w) : Calls Tryd.prog 7 #[] w fun e w' => e = .returned (.bool true) ∧ Below w.heap.size w w' := by
  have H2 : Hid (∀ u, Tab u → Calls Tryd.prog 23 #[.int .i64 2] u (Tells1 u false 1 1 1)) := fun u hu => dof_nat 2 (by decide) false 1 1 u hu rfl
  have H1000 : Hid (∀ u, Tab u → Calls Tryd.prog 23 #[.int .i64 1000] u (Tells1 u false 125 1 3)) := fun u hu => dof_nat 1000 (by decide) false 125 3 u hu rfl
  have H0 : Hid (∀ u, Tab u → Calls Tryd.prog 23 #[.int .i64 0] u (Tells1 u false 0 1 0)) := fun u hu => dof_nat 0 (by decide) false 0 0 u hu rfl
  have HT := Lib.hid hT
  clear hT
  go_enter Tryd.func7, Tryd.ntmps7
  go_wp2_with fail
  refine (H2.out _ HT.out).mono ?_
  rintro e w1 ⟨A1, m1, c1, zs, rfl, hm1, hl1, hb1, hv1, hB1⟩
  replace HT := Lib.hid (HT.out.below hB1)
  have HS := Lib.hid hB1
  have L1 := Lib.hid hl1
  clear hl1 hb1 hB1
  go_wp2_with fail
  refine (H1000.out _ HT.out).mono ?_
  rintro e w2 ⟨A2, m2, c2, us, rfl, hm2, hl2, hb2, hv2, hB2⟩
  replace HT := Lib.hid (HT.out.below hB2)
  replace HS := Lib.hid (HS.out.trans (hB2.mono HS.out.size))
  have HC := Lib.hid (ratcmp_l 1 0 false A1 m1 c1 zs 1 10 false A2 m2 c2 us 3 1 w2 (L1.out.below hB2) hl2 (by omega) (by omega) HT.out (by decide) (by decide) (by decide) (by decide) (by show _ = _; rw [hv1, hv2]; exact alive_one))
  clear hl2 hb2 hB2 hv1 hv2 L1
  go_wp2_with fail
  refine HC.out.mono ?_
  rintro e w3 ⟨rfl, hB3⟩
  replace HT := Lib.hid (HT.out.below hB3)
  replace HS := Lib.hid (HS.out.trans (hB3.mono HS.out.size))
  clear hB3 HC H1000
  go_wp2_with fail
  refine (H2.out _ HT.out).mono ?_
  rintro e w4 ⟨A1, m1, c1, zs, rfl, hm1, hl1, hb1, hv1, hB1⟩
  replace HT := Lib.hid (HT.out.below hB1)
  replace HS := Lib.hid (HS.out.trans (hB1.mono HS.out.size))
  have L1 := Lib.hid hl1
  clear hl1 hb1 hB1
  go_wp2_with fail
  refine (H0.out _ HT.out).mono ?_
  rintro e w5 ⟨A2, m2, c2, us, rfl, hm2, hl2, hb2, hv2, hB2⟩
  replace HT := Lib.hid (HT.out.below hB2)
  replace HS := Lib.hid (HS.out.trans (hB2.mono HS.out.size))
  have HC := Lib.hid (ratcmp_l 0 1 false A1 m1 c1 zs 1 10 false A2 m2 c2 us 0 1 w5 (L1.out.below hB2) hl2 (by omega) (by omega) HT.out (by decide) (by decide) (by decide) (by decide) (by show _ = _; rw [hv1, hv2]; exact alive_two))
  clear hl2 hb2 hB2 hv1 hv2 L1
  go_wp2_with fail
  refine HC.out.mono ?_
  rintro e w6 ⟨rfl, hB3⟩
  have Hfin := Lib.hid (HS.out.trans (hB3.mono HS.out.size))
  clear hB3 HC H2 H0 HS HT
  go_wp2
  go_ret
  exact ⟨rfl, Hfin.out⟩
end Go.Proofs.YteflihpnhgicfaaDoor
