/- The walks of iv.canBeBare, Right, Has, Inside (written by law_iv1.py). -/
import Derived.Test.YtafgooiakmmfkaaDoorIvSp
import Derived.Test.YtafgooiakmmfkaaDoorK4
import Derived.Test.YtafgooiakmmfkaaDoorK2
namespace Go.Proofs.YtafgooiakmmfkaaDoor
open Go.RowKit

theorem cmpI_leB {x y : Int} {b : Bool} (h : decide (x ≤ y) = b) : decide (cmpI x y ≤ 0) = b := by
  rw [← h]
  refine decide_eq_decide.2 ?_
  unfold cmpI
  split
  · omega
  · split <;> omega

set_option maxHeartbeats 2000000 in
set_option maxRecDepth 20000 in
theorem canbare_l (d1 : Dy) (g1 : Bool) (A1 : Option Addr) (n1 c1 : Nat) (xs1 : List Nat) (e1 : Int) (w : World) (l1 : Lim w A1 n1 c1 xs1) (b1 : n1 ≤ 100000) (hT : Tab w) (hm : Hid (mk g1 (val xs1) e1 = some d1)) :
    Calls Tryd.prog 41 #[.agg #[.bool g1, .slice A1 n1 c1, .int .i64 e1]] w fun e w' => e = .returned (.bool true) ∧ Below w.heap.size w w' := by
  have HT := Lib.hid hT
  have HS := Lib.hid (Below.refl w.heap.size w)
  have H1 : Hid (Lim w A1 n1 c1 xs1) := l1
  clear l1 hT
  have ba := below1 w (.cells #[.bool g1, .slice A1 n1 c1, .int .i64 e1] 36)
  replace HT : Hid (Tab (w.alloc (.cells #[.bool g1, .slice A1 n1 c1, .int .i64 e1] 36))) := HT.out.below ba
  replace H1 : Hid (Lim (w.alloc (.cells #[.bool g1, .slice A1 n1 c1, .int .i64 e1] 36)) A1 n1 c1 xs1) := H1.out.below ba
  replace HS := Lib.hid (HS.out.trans (ba.mono HS.out.size))
  clear ba
  have HB : Hid (Bd (w.alloc (.cells #[.bool g1, .slice A1 n1 c1, .int .i64 e1] 36)) w.heap.size 36 g1 A1 n1 c1 e1) := Bd.new w 36 g1 A1 n1 c1 e1
  have HB_0 := HB.out.c0
  have HB_1 := HB.out.c1
  have HB_2 := HB.out.c2
  have K1 := dbare_any g1 A1 n1 c1 xs1 e1 (w.alloc (.cells #[.bool g1, .slice A1 n1 c1, .int .i64 e1] 36)) H1.out (by omega) HT.out
  rw [hm.out] at K1
  replace K1 := Lib.hid K1
  go_enter Tryd.func41, Tryd.ntmps41
  go_wp2_with fail
  refine K1.out.mono ?_
  rintro e w1 ⟨g2, A2, m2, c2, zs, E2, r2, rfl, hm2, hl2, hb2, ⟨rfl, rfl, hz, rfl⟩, hB⟩
  clear HB_0 HB_1 HB_2
  replace HT : Hid (Tab w1) := HT.out.below hB
  replace H1 : Hid (Lim w1 A1 n1 c1 xs1) := H1.out.below hB
  replace HB : Hid (Bd w1 w.heap.size 36 g1 A1 n1 c1 e1) := HB.out.below hB
  replace HS := Lib.hid (HS.out.trans (hB.mono HS.out.size))
  have Hfin := Lib.hid (HS.out.alloc HS.out.size (.cells #[.bool d1.neg, .slice A2 m2 c2, .int .i64 d1.e] 36))
  clear hl2 hb2 hz hB K1 hm HT H1 HB HS
  go_wp2
  go_ret
  exact ⟨rfl, Hfin.out⟩
set_option maxHeartbeats 2000000 in
set_option maxRecDepth 20000 in
theorem iright_l (v : Bool) (d1 d2 : Dy) (g1 : Bool) (A1 : Option Addr) (n1 c1 : Nat) (xs1 : List Nat) (e1 : Int) (g2 : Bool) (A2 : Option Addr) (n2 c2 : Nat) (xs2 : List Nat) (e2 : Int) (w : World) (l1 : Lim w A1 n1 c1 xs1) (b1 : n1 ≤ 100000) (l2 : Lim w A2 n2 c2 xs2) (b2 : n2 ≤ 100000) (hT : Tab w) (h1 : Hid (mk g1 (val xs1) e1 = some d1)) (h2 : Hid (mk g2 (val xs2) e2 = some d2)) (hv : Hid (decide ((dw g1 (val xs1) e1) ≤ (dw g2 (val xs2) e2)) = v)) :
    Calls Tryd.prog 16 #[.agg #[.bool g1, .slice A1 n1 c1, .int .i64 e1, .bool g2, .slice A2 n2 c2, .int .i64 e2]] w fun e w' => e = .returned (.bool v) ∧ Below w.heap.size w w' := by
  have HT := Lib.hid hT
  have HS := Lib.hid (Below.refl w.heap.size w)
  have H1 : Hid (Lim w A1 n1 c1 xs1) := l1
  have H2 : Hid (Lim w A2 n2 c2 xs2) := l2
  clear l1 l2 hT
  have ba := below1 w (.cells #[.bool g1, .slice A1 n1 c1, .int .i64 e1, .bool g2, .slice A2 n2 c2, .int .i64 e2] 38)
  replace HT : Hid (Tab (w.alloc (.cells #[.bool g1, .slice A1 n1 c1, .int .i64 e1, .bool g2, .slice A2 n2 c2, .int .i64 e2] 38))) := HT.out.below ba
  replace H1 : Hid (Lim (w.alloc (.cells #[.bool g1, .slice A1 n1 c1, .int .i64 e1, .bool g2, .slice A2 n2 c2, .int .i64 e2] 38)) A1 n1 c1 xs1) := H1.out.below ba
  replace H2 : Hid (Lim (w.alloc (.cells #[.bool g1, .slice A1 n1 c1, .int .i64 e1, .bool g2, .slice A2 n2 c2, .int .i64 e2] 38)) A2 n2 c2 xs2) := H2.out.below ba
  replace HS := Lib.hid (HS.out.trans (ba.mono HS.out.size))
  clear ba
  have HB : Hid (Ib (w.alloc (.cells #[.bool g1, .slice A1 n1 c1, .int .i64 e1, .bool g2, .slice A2 n2 c2, .int .i64 e2] 38)) w.heap.size g1 A1 n1 c1 e1 g2 A2 n2 c2 e2) := Ib.new w g1 A1 n1 c1 e1 g2 A2 n2 c2 e2
  have HB_0 := HB.out.x0
  have HB_1 := HB.out.x1
  have HB_2 := HB.out.x2
  have HB_3 := HB.out.x3
  have HB_4 := HB.out.x4
  have HB_5 := HB.out.x5
  have K1 := Lib.hid (canbare_l d1 g1 A1 n1 c1 xs1 e1 (w.alloc (.cells #[.bool g1, .slice A1 n1 c1, .int .i64 e1, .bool g2, .slice A2 n2 c2, .int .i64 e2] 38)) H1.out b1 HT.out h1)
  obtain ⟨vc, hvc⟩ : ∃ v, cmpI (dw g1 (val xs1) e1) (dw g2 (val xs2) e2) = v := ⟨_, rfl⟩
  have cv : decide (vc ≤ (0 : Int)) = v := by rw [← hvc]; exact cmpI_leB hv.out
  have HVC := Lib.hid hvc
  clear hvc hv
  go_enter Tryd.func16, Tryd.ntmps16
  go_wp2_with fail
  refine K1.out.mono ?_
  rintro e w1 ⟨rfl, hB⟩
  clear HB_0 HB_1 HB_2 HB_3 HB_4 HB_5
  replace HT : Hid (Tab w1) := HT.out.below hB
  replace H1 : Hid (Lim w1 A1 n1 c1 xs1) := H1.out.below hB
  replace H2 : Hid (Lim w1 A2 n2 c2 xs2) := H2.out.below hB
  replace HB : Hid (Ib w1 w.heap.size g1 A1 n1 c1 e1 g2 A2 n2 c2 e2) := HB.out.below hB
  replace HS := Lib.hid (HS.out.trans (hB.mono HS.out.size))
  clear hB K1
  have HB_0 := HB.out.x0
  have HB_1 := HB.out.x1
  have HB_2 := HB.out.x2
  have HB_3 := HB.out.x3
  have HB_4 := HB.out.x4
  have HB_5 := HB.out.x5
  have K2 := Lib.hid (canbare_l d2 g2 A2 n2 c2 xs2 e2 w1 H2.out b2 HT.out h2)
  go_wp2_with fail
  refine K2.out.mono ?_
  rintro e w2 ⟨rfl, hB⟩
  clear HB_0 HB_1 HB_2 HB_3 HB_4 HB_5
  replace HT : Hid (Tab w2) := HT.out.below hB
  replace H1 : Hid (Lim w2 A1 n1 c1 xs1) := H1.out.below hB
  replace H2 : Hid (Lim w2 A2 n2 c2 xs2) := H2.out.below hB
  replace HB : Hid (Ib w2 w.heap.size g1 A1 n1 c1 e1 g2 A2 n2 c2 e2) := HB.out.below hB
  replace HS := Lib.hid (HS.out.trans (hB.mono HS.out.size))
  clear hB K2
  have HB_0 := HB.out.x0
  have HB_1 := HB.out.x1
  have HB_2 := HB.out.x2
  have HB_3 := HB.out.x3
  have HB_4 := HB.out.x4
  have HB_5 := HB.out.x5
  have K3 := Lib.hid (dcmp_l vc g1 A1 n1 c1 xs1 e1 g2 A2 n2 c2 xs2 e2 w2 H1.out H2.out (by omega) (by omega) HT.out HVC)
  go_wp2_with fail
  refine K3.out.mono ?_
  rintro e w3 ⟨rfl, hB⟩
  clear HB_0 HB_1 HB_2 HB_3 HB_4 HB_5
  replace HT : Hid (Tab w3) := HT.out.below hB
  replace H1 : Hid (Lim w3 A1 n1 c1 xs1) := H1.out.below hB
  replace H2 : Hid (Lim w3 A2 n2 c2 xs2) := H2.out.below hB
  replace HB : Hid (Ib w3 w.heap.size g1 A1 n1 c1 e1 g2 A2 n2 c2 e2) := HB.out.below hB
  replace HS := Lib.hid (HS.out.trans (hB.mono HS.out.size))
  clear hB K3
  have Hfin := Lib.hid HS.out
  clear HS HT H1 H2 HB h1 h2 HVC
  go_wp2
  go_ret
  exact ⟨rfl, Hfin.out⟩
set_option maxHeartbeats 2000000 in
set_option maxRecDepth 20000 in
theorem ihas_l (v1 v2 v3 : Bool) (d1 d2 d3 : Dy) (g1 : Bool) (A1 : Option Addr) (n1 c1 : Nat) (xs1 : List Nat) (e1 : Int) (g2 : Bool) (A2 : Option Addr) (n2 c2 : Nat) (xs2 : List Nat) (e2 : Int) (g3 : Bool) (A3 : Option Addr) (n3 c3 : Nat) (xs3 : List Nat) (e3 : Int) (w : World) (l1 : Lim w A1 n1 c1 xs1) (b1 : n1 ≤ 100000) (l2 : Lim w A2 n2 c2 xs2) (b2 : n2 ≤ 100000) (l3 : Lim w A3 n3 c3 xs3) (b3 : n3 ≤ 100000) (hT : Tab w) (h1 : Hid (mk g1 (val xs1) e1 = some d1)) (h2 : Hid (mk g2 (val xs2) e2 = some d2)) (h3 : Hid (mk g3 (val xs3) e3 = some d3))
    (q1 : Hid (decide ((dw g1 (val xs1) e1) ≤ (dw g2 (val xs2) e2)) = v1)) (q2 : Hid (decide ((dw g1 (val xs1) e1) ≤ (dw g3 (val xs3) e3)) = v2)) (q3 : Hid (decide ((dw g3 (val xs3) e3) ≤ (dw g2 (val xs2) e2)) = v3)) :
    Calls Tryd.prog 17 #[.agg #[.bool g1, .slice A1 n1 c1, .int .i64 e1, .bool g2, .slice A2 n2 c2, .int .i64 e2], .agg #[.bool g3, .slice A3 n3 c3, .int .i64 e3]] w fun e w' => e = .returned (.bool (v1 && v2 && v3)) ∧ Below w.heap.size w w' := by
  have HT := Lib.hid hT
  have HS := Lib.hid (Below.refl w.heap.size w)
  have H1 : Hid (Lim w A1 n1 c1 xs1) := l1
  have H2 : Hid (Lim w A2 n2 c2 xs2) := l2
  have H3 : Hid (Lim w A3 n3 c3 xs3) := l3
  clear l1 l2 l3 hT
  have ba := below1 w (.cells #[.bool g1, .slice A1 n1 c1, .int .i64 e1, .bool g2, .slice A2 n2 c2, .int .i64 e2] 38)
  replace HT : Hid (Tab (w.alloc (.cells #[.bool g1, .slice A1 n1 c1, .int .i64 e1, .bool g2, .slice A2 n2 c2, .int .i64 e2] 38))) := HT.out.below ba
  replace H1 : Hid (Lim (w.alloc (.cells #[.bool g1, .slice A1 n1 c1, .int .i64 e1, .bool g2, .slice A2 n2 c2, .int .i64 e2] 38)) A1 n1 c1 xs1) := H1.out.below ba
  replace H2 : Hid (Lim (w.alloc (.cells #[.bool g1, .slice A1 n1 c1, .int .i64 e1, .bool g2, .slice A2 n2 c2, .int .i64 e2] 38)) A2 n2 c2 xs2) := H2.out.below ba
  replace H3 : Hid (Lim (w.alloc (.cells #[.bool g1, .slice A1 n1 c1, .int .i64 e1, .bool g2, .slice A2 n2 c2, .int .i64 e2] 38)) A3 n3 c3 xs3) := H3.out.below ba
  replace HS := Lib.hid (HS.out.trans (ba.mono HS.out.size))
  clear ba
  have HB : Hid (Ib (w.alloc (.cells #[.bool g1, .slice A1 n1 c1, .int .i64 e1, .bool g2, .slice A2 n2 c2, .int .i64 e2] 38)) w.heap.size g1 A1 n1 c1 e1 g2 A2 n2 c2 e2) := Ib.new w g1 A1 n1 c1 e1 g2 A2 n2 c2 e2
  have ba := below1 (w.alloc (.cells #[.bool g1, .slice A1 n1 c1, .int .i64 e1, .bool g2, .slice A2 n2 c2, .int .i64 e2] 38)) (.cells #[.bool g3, .slice A3 n3 c3, .int .i64 e3] 36)
  replace HT : Hid (Tab ((w.alloc (.cells #[.bool g1, .slice A1 n1 c1, .int .i64 e1, .bool g2, .slice A2 n2 c2, .int .i64 e2] 38)).alloc (.cells #[.bool g3, .slice A3 n3 c3, .int .i64 e3] 36))) := HT.out.below ba
  replace H1 : Hid (Lim ((w.alloc (.cells #[.bool g1, .slice A1 n1 c1, .int .i64 e1, .bool g2, .slice A2 n2 c2, .int .i64 e2] 38)).alloc (.cells #[.bool g3, .slice A3 n3 c3, .int .i64 e3] 36)) A1 n1 c1 xs1) := H1.out.below ba
  replace H2 : Hid (Lim ((w.alloc (.cells #[.bool g1, .slice A1 n1 c1, .int .i64 e1, .bool g2, .slice A2 n2 c2, .int .i64 e2] 38)).alloc (.cells #[.bool g3, .slice A3 n3 c3, .int .i64 e3] 36)) A2 n2 c2 xs2) := H2.out.below ba
  replace H3 : Hid (Lim ((w.alloc (.cells #[.bool g1, .slice A1 n1 c1, .int .i64 e1, .bool g2, .slice A2 n2 c2, .int .i64 e2] 38)).alloc (.cells #[.bool g3, .slice A3 n3 c3, .int .i64 e3] 36)) A3 n3 c3 xs3) := H3.out.below ba
  replace HB : Hid (Ib ((w.alloc (.cells #[.bool g1, .slice A1 n1 c1, .int .i64 e1, .bool g2, .slice A2 n2 c2, .int .i64 e2] 38)).alloc (.cells #[.bool g3, .slice A3 n3 c3, .int .i64 e3] 36)) w.heap.size g1 A1 n1 c1 e1 g2 A2 n2 c2 e2) := HB.out.below ba
  replace HS := Lib.hid (HS.out.trans (ba.mono HS.out.size))
  clear ba
  have HD : Hid (Bd ((w.alloc (.cells #[.bool g1, .slice A1 n1 c1, .int .i64 e1, .bool g2, .slice A2 n2 c2, .int .i64 e2] 38)).alloc (.cells #[.bool g3, .slice A3 n3 c3, .int .i64 e3] 36)) (w.heap.size + 1) 36 g3 A3 n3 c3 e3) := (by have h := Bd.new (w.alloc (.cells #[.bool g1, .slice A1 n1 c1, .int .i64 e1, .bool g2, .slice A2 n2 c2, .int .i64 e2] 38)) 36 g3 A3 n3 c3 e3; rw [World.size_alloc] at h; exact h)
  have HB_0 := HB.out.x0
  have HB_1 := HB.out.x1
  have HB_2 := HB.out.x2
  have HB_3 := HB.out.x3
  have HB_4 := HB.out.x4
  have HB_5 := HB.out.x5
  have HD_0 := HD.out.c0
  have HD_1 := HD.out.c1
  have HD_2 := HD.out.c2
  have K1 := Lib.hid (iright_l v1 d1 d2 g1 A1 n1 c1 xs1 e1 g2 A2 n2 c2 xs2 e2 ((w.alloc (.cells #[.bool g1, .slice A1 n1 c1, .int .i64 e1, .bool g2, .slice A2 n2 c2, .int .i64 e2] 38)).alloc (.cells #[.bool g3, .slice A3 n3 c3, .int .i64 e3] 36)) H1.out b1 H2.out b2 HT.out h1 h2 q1)
  obtain ⟨va, hva⟩ : ∃ v, cmpI (dw g1 (val xs1) e1) (dw g3 (val xs3) e3) = v := ⟨_, rfl⟩
  obtain ⟨vb, hvb⟩ : ∃ v, cmpI (dw g3 (val xs3) e3) (dw g2 (val xs2) e2) = v := ⟨_, rfl⟩
  have ca : decide (va ≤ (0 : Int)) = v2 := by rw [← hva]; exact cmpI_leB q2.out
  have cb : decide (vb ≤ (0 : Int)) = v3 := by rw [← hvb]; exact cmpI_leB q3.out
  have HVA := Lib.hid hva
  have HVB := Lib.hid hvb
  clear hva hvb q1 q2 q3
  go_enter Tryd.func17, Tryd.ntmps17
  go_wp2_with fail
  refine K1.out.mono ?_
  rintro e w1 ⟨rfl, hB⟩
  clear HB_0 HB_1 HB_2 HB_3 HB_4 HB_5 HD_0 HD_1 HD_2
  replace HT : Hid (Tab w1) := HT.out.below hB
  replace H1 : Hid (Lim w1 A1 n1 c1 xs1) := H1.out.below hB
  replace H2 : Hid (Lim w1 A2 n2 c2 xs2) := H2.out.below hB
  replace H3 : Hid (Lim w1 A3 n3 c3 xs3) := H3.out.below hB
  replace HB : Hid (Ib w1 w.heap.size g1 A1 n1 c1 e1 g2 A2 n2 c2 e2) := HB.out.below hB
  replace HD : Hid (Bd w1 (w.heap.size + 1) 36 g3 A3 n3 c3 e3) := HD.out.below hB
  replace HS := Lib.hid (HS.out.trans (hB.mono HS.out.size))
  clear hB K1
  have HB_0 := HB.out.x0
  have HB_1 := HB.out.x1
  have HB_2 := HB.out.x2
  have HB_3 := HB.out.x3
  have HB_4 := HB.out.x4
  have HB_5 := HB.out.x5
  have HD_0 := HD.out.c0
  have HD_1 := HD.out.c1
  have HD_2 := HD.out.c2
  cases v1
  · skip
    have Hfin := Lib.hid HS.out
    clear HS HT H1 H2 H3 HB HD h1 h2 h3 HVA HVB
    go_wp2
    go_ret
    exact ⟨rfl, Hfin.out⟩
  · skip
    have K2 := Lib.hid (canbare_l d3 g3 A3 n3 c3 xs3 e3 w1 H3.out b3 HT.out h3)
    go_wp2_with fail
    refine K2.out.mono ?_
    rintro e w2 ⟨rfl, hB⟩
    clear HB_0 HB_1 HB_2 HB_3 HB_4 HB_5 HD_0 HD_1 HD_2
    replace HT : Hid (Tab w2) := HT.out.below hB
    replace H1 : Hid (Lim w2 A1 n1 c1 xs1) := H1.out.below hB
    replace H2 : Hid (Lim w2 A2 n2 c2 xs2) := H2.out.below hB
    replace H3 : Hid (Lim w2 A3 n3 c3 xs3) := H3.out.below hB
    replace HB : Hid (Ib w2 w.heap.size g1 A1 n1 c1 e1 g2 A2 n2 c2 e2) := HB.out.below hB
    replace HD : Hid (Bd w2 (w.heap.size + 1) 36 g3 A3 n3 c3 e3) := HD.out.below hB
    replace HS := Lib.hid (HS.out.trans (hB.mono HS.out.size))
    clear hB K2
    have HB_0 := HB.out.x0
    have HB_1 := HB.out.x1
    have HB_2 := HB.out.x2
    have HB_3 := HB.out.x3
    have HB_4 := HB.out.x4
    have HB_5 := HB.out.x5
    have HD_0 := HD.out.c0
    have HD_1 := HD.out.c1
    have HD_2 := HD.out.c2
    have K3 := Lib.hid (dcmp_l va g1 A1 n1 c1 xs1 e1 g3 A3 n3 c3 xs3 e3 w2 H1.out H3.out (by omega) (by omega) HT.out HVA)
    go_wp2_with fail
    refine K3.out.mono ?_
    rintro e w3 ⟨rfl, hB⟩
    clear HB_0 HB_1 HB_2 HB_3 HB_4 HB_5 HD_0 HD_1 HD_2
    replace HT : Hid (Tab w3) := HT.out.below hB
    replace H1 : Hid (Lim w3 A1 n1 c1 xs1) := H1.out.below hB
    replace H2 : Hid (Lim w3 A2 n2 c2 xs2) := H2.out.below hB
    replace H3 : Hid (Lim w3 A3 n3 c3 xs3) := H3.out.below hB
    replace HB : Hid (Ib w3 w.heap.size g1 A1 n1 c1 e1 g2 A2 n2 c2 e2) := HB.out.below hB
    replace HD : Hid (Bd w3 (w.heap.size + 1) 36 g3 A3 n3 c3 e3) := HD.out.below hB
    replace HS := Lib.hid (HS.out.trans (hB.mono HS.out.size))
    clear hB K3
    have HB_0 := HB.out.x0
    have HB_1 := HB.out.x1
    have HB_2 := HB.out.x2
    have HB_3 := HB.out.x3
    have HB_4 := HB.out.x4
    have HB_5 := HB.out.x5
    have HD_0 := HD.out.c0
    have HD_1 := HD.out.c1
    have HD_2 := HD.out.c2
    cases v2
    · skip
      have Hfin := Lib.hid HS.out
      clear HS HT H1 H2 H3 HB HD h1 h2 h3 HVA HVB
      go_wp2
      go_ret
      exact ⟨rfl, Hfin.out⟩
    · skip
      have K4 := Lib.hid (dcmp_l vb g3 A3 n3 c3 xs3 e3 g2 A2 n2 c2 xs2 e2 w3 H3.out H2.out (by omega) (by omega) HT.out HVB)
      go_wp2_with fail
      refine K4.out.mono ?_
      rintro e w4 ⟨rfl, hB⟩
      clear HB_0 HB_1 HB_2 HB_3 HB_4 HB_5 HD_0 HD_1 HD_2
      replace HT : Hid (Tab w4) := HT.out.below hB
      replace H1 : Hid (Lim w4 A1 n1 c1 xs1) := H1.out.below hB
      replace H2 : Hid (Lim w4 A2 n2 c2 xs2) := H2.out.below hB
      replace H3 : Hid (Lim w4 A3 n3 c3 xs3) := H3.out.below hB
      replace HB : Hid (Ib w4 w.heap.size g1 A1 n1 c1 e1 g2 A2 n2 c2 e2) := HB.out.below hB
      replace HD : Hid (Bd w4 (w.heap.size + 1) 36 g3 A3 n3 c3 e3) := HD.out.below hB
      replace HS := Lib.hid (HS.out.trans (hB.mono HS.out.size))
      clear hB K4
      have Hfin := Lib.hid HS.out
      clear HS HT H1 H2 H3 HB HD h1 h2 h3 HVA HVB
      go_wp2
      go_ret
      exact ⟨rfl, Hfin.out⟩
set_option maxHeartbeats 2000000 in
set_option maxRecDepth 20000 in
theorem iinside_l (v1 v2 v3 v4 v5 v6 : Bool) (d1 d2 d3 d4 : Dy) (g1 : Bool) (A1 : Option Addr) (n1 c1 : Nat) (xs1 : List Nat) (e1 : Int) (g2 : Bool) (A2 : Option Addr) (n2 c2 : Nat) (xs2 : List Nat) (e2 : Int) (g3 : Bool) (A3 : Option Addr) (n3 c3 : Nat) (xs3 : List Nat) (e3 : Int) (g4 : Bool) (A4 : Option Addr) (n4 c4 : Nat) (xs4 : List Nat) (e4 : Int) (w : World) (l1 : Lim w A1 n1 c1 xs1) (b1 : n1 ≤ 100000) (l2 : Lim w A2 n2 c2 xs2) (b2 : n2 ≤ 100000) (l3 : Lim w A3 n3 c3 xs3) (b3 : n3 ≤ 100000) (l4 : Lim w A4 n4 c4 xs4) (b4 : n4 ≤ 100000) (hT : Tab w) (h1 : Hid (mk g1 (val xs1) e1 = some d1)) (h2 : Hid (mk g2 (val xs2) e2 = some d2)) (h3 : Hid (mk g3 (val xs3) e3 = some d3)) (h4 : Hid (mk g4 (val xs4) e4 = some d4))
    (q1 : Hid (decide ((dw g1 (val xs1) e1) ≤ (dw g2 (val xs2) e2)) = v1)) (q2 : Hid (decide ((dw g3 (val xs3) e3) ≤ (dw g4 (val xs4) e4)) = v2)) (q3 : Hid (decide ((dw g3 (val xs3) e3) ≤ (dw g1 (val xs1) e1)) = v3)) (q4 : Hid (decide ((dw g1 (val xs1) e1) ≤ (dw g4 (val xs4) e4)) = v4)) (q5 : Hid (decide ((dw g3 (val xs3) e3) ≤ (dw g2 (val xs2) e2)) = v5)) (q6 : Hid (decide ((dw g2 (val xs2) e2) ≤ (dw g4 (val xs4) e4)) = v6)) :
    Calls Tryd.prog 18 #[.agg #[.bool g1, .slice A1 n1 c1, .int .i64 e1, .bool g2, .slice A2 n2 c2, .int .i64 e2], .agg #[.bool g3, .slice A3 n3 c3, .int .i64 e3, .bool g4, .slice A4 n4 c4, .int .i64 e4]] w fun e w' => e = .returned (.bool (v1 && (v2 && v3 && v4) && (v2 && v5 && v6))) ∧ Below w.heap.size w w' := by
  have HT := Lib.hid hT
  have HS := Lib.hid (Below.refl w.heap.size w)
  have H1 : Hid (Lim w A1 n1 c1 xs1) := l1
  have H2 : Hid (Lim w A2 n2 c2 xs2) := l2
  have H3 : Hid (Lim w A3 n3 c3 xs3) := l3
  have H4 : Hid (Lim w A4 n4 c4 xs4) := l4
  clear l1 l2 l3 l4 hT
  have ba := below1 w (.cells #[.bool g1, .slice A1 n1 c1, .int .i64 e1, .bool g2, .slice A2 n2 c2, .int .i64 e2] 38)
  replace HT : Hid (Tab (w.alloc (.cells #[.bool g1, .slice A1 n1 c1, .int .i64 e1, .bool g2, .slice A2 n2 c2, .int .i64 e2] 38))) := HT.out.below ba
  replace H1 : Hid (Lim (w.alloc (.cells #[.bool g1, .slice A1 n1 c1, .int .i64 e1, .bool g2, .slice A2 n2 c2, .int .i64 e2] 38)) A1 n1 c1 xs1) := H1.out.below ba
  replace H2 : Hid (Lim (w.alloc (.cells #[.bool g1, .slice A1 n1 c1, .int .i64 e1, .bool g2, .slice A2 n2 c2, .int .i64 e2] 38)) A2 n2 c2 xs2) := H2.out.below ba
  replace H3 : Hid (Lim (w.alloc (.cells #[.bool g1, .slice A1 n1 c1, .int .i64 e1, .bool g2, .slice A2 n2 c2, .int .i64 e2] 38)) A3 n3 c3 xs3) := H3.out.below ba
  replace H4 : Hid (Lim (w.alloc (.cells #[.bool g1, .slice A1 n1 c1, .int .i64 e1, .bool g2, .slice A2 n2 c2, .int .i64 e2] 38)) A4 n4 c4 xs4) := H4.out.below ba
  replace HS := Lib.hid (HS.out.trans (ba.mono HS.out.size))
  clear ba
  have HB : Hid (Ib (w.alloc (.cells #[.bool g1, .slice A1 n1 c1, .int .i64 e1, .bool g2, .slice A2 n2 c2, .int .i64 e2] 38)) w.heap.size g1 A1 n1 c1 e1 g2 A2 n2 c2 e2) := Ib.new w g1 A1 n1 c1 e1 g2 A2 n2 c2 e2
  have ba := below1 (w.alloc (.cells #[.bool g1, .slice A1 n1 c1, .int .i64 e1, .bool g2, .slice A2 n2 c2, .int .i64 e2] 38)) (.cells #[.bool g3, .slice A3 n3 c3, .int .i64 e3, .bool g4, .slice A4 n4 c4, .int .i64 e4] 38)
  replace HT : Hid (Tab ((w.alloc (.cells #[.bool g1, .slice A1 n1 c1, .int .i64 e1, .bool g2, .slice A2 n2 c2, .int .i64 e2] 38)).alloc (.cells #[.bool g3, .slice A3 n3 c3, .int .i64 e3, .bool g4, .slice A4 n4 c4, .int .i64 e4] 38))) := HT.out.below ba
  replace H1 : Hid (Lim ((w.alloc (.cells #[.bool g1, .slice A1 n1 c1, .int .i64 e1, .bool g2, .slice A2 n2 c2, .int .i64 e2] 38)).alloc (.cells #[.bool g3, .slice A3 n3 c3, .int .i64 e3, .bool g4, .slice A4 n4 c4, .int .i64 e4] 38)) A1 n1 c1 xs1) := H1.out.below ba
  replace H2 : Hid (Lim ((w.alloc (.cells #[.bool g1, .slice A1 n1 c1, .int .i64 e1, .bool g2, .slice A2 n2 c2, .int .i64 e2] 38)).alloc (.cells #[.bool g3, .slice A3 n3 c3, .int .i64 e3, .bool g4, .slice A4 n4 c4, .int .i64 e4] 38)) A2 n2 c2 xs2) := H2.out.below ba
  replace H3 : Hid (Lim ((w.alloc (.cells #[.bool g1, .slice A1 n1 c1, .int .i64 e1, .bool g2, .slice A2 n2 c2, .int .i64 e2] 38)).alloc (.cells #[.bool g3, .slice A3 n3 c3, .int .i64 e3, .bool g4, .slice A4 n4 c4, .int .i64 e4] 38)) A3 n3 c3 xs3) := H3.out.below ba
  replace H4 : Hid (Lim ((w.alloc (.cells #[.bool g1, .slice A1 n1 c1, .int .i64 e1, .bool g2, .slice A2 n2 c2, .int .i64 e2] 38)).alloc (.cells #[.bool g3, .slice A3 n3 c3, .int .i64 e3, .bool g4, .slice A4 n4 c4, .int .i64 e4] 38)) A4 n4 c4 xs4) := H4.out.below ba
  replace HB : Hid (Ib ((w.alloc (.cells #[.bool g1, .slice A1 n1 c1, .int .i64 e1, .bool g2, .slice A2 n2 c2, .int .i64 e2] 38)).alloc (.cells #[.bool g3, .slice A3 n3 c3, .int .i64 e3, .bool g4, .slice A4 n4 c4, .int .i64 e4] 38)) w.heap.size g1 A1 n1 c1 e1 g2 A2 n2 c2 e2) := HB.out.below ba
  replace HS := Lib.hid (HS.out.trans (ba.mono HS.out.size))
  clear ba
  have HC : Hid (Ib ((w.alloc (.cells #[.bool g1, .slice A1 n1 c1, .int .i64 e1, .bool g2, .slice A2 n2 c2, .int .i64 e2] 38)).alloc (.cells #[.bool g3, .slice A3 n3 c3, .int .i64 e3, .bool g4, .slice A4 n4 c4, .int .i64 e4] 38)) (w.heap.size + 1) g3 A3 n3 c3 e3 g4 A4 n4 c4 e4) := (by have h := Ib.new (w.alloc (.cells #[.bool g1, .slice A1 n1 c1, .int .i64 e1, .bool g2, .slice A2 n2 c2, .int .i64 e2] 38)) g3 A3 n3 c3 e3 g4 A4 n4 c4 e4; rw [World.size_alloc] at h; exact h)
  have HB_0 := HB.out.x0
  have HB_1 := HB.out.x1
  have HB_2 := HB.out.x2
  have HB_3 := HB.out.x3
  have HB_4 := HB.out.x4
  have HB_5 := HB.out.x5
  have HC_0 := HC.out.x0
  have HC_1 := HC.out.x1
  have HC_2 := HC.out.x2
  have HC_3 := HC.out.x3
  have HC_4 := HC.out.x4
  have HC_5 := HC.out.x5
  have K1 := Lib.hid (iright_l v1 d1 d2 g1 A1 n1 c1 xs1 e1 g2 A2 n2 c2 xs2 e2 ((w.alloc (.cells #[.bool g1, .slice A1 n1 c1, .int .i64 e1, .bool g2, .slice A2 n2 c2, .int .i64 e2] 38)).alloc (.cells #[.bool g3, .slice A3 n3 c3, .int .i64 e3, .bool g4, .slice A4 n4 c4, .int .i64 e4] 38)) H1.out b1 H2.out b2 HT.out h1 h2 q1)
  obtain ⟨va, hva⟩ : ∃ v, (v2 && v3 && v4) = v := ⟨_, rfl⟩
  obtain ⟨vb, hvb⟩ : ∃ v, (v2 && v5 && v6) = v := ⟨_, rfl⟩
  have HVA := Lib.hid hva
  have HVB := Lib.hid hvb
  rw [hva, hvb]
  clear hva hvb q1
  go_enter Tryd.func18, Tryd.ntmps18
  go_wp2_with fail
  refine K1.out.mono ?_
  rintro e w1 ⟨rfl, hB⟩
  clear HB_0 HB_1 HB_2 HB_3 HB_4 HB_5 HC_0 HC_1 HC_2 HC_3 HC_4 HC_5
  replace HT : Hid (Tab w1) := HT.out.below hB
  replace H1 : Hid (Lim w1 A1 n1 c1 xs1) := H1.out.below hB
  replace H2 : Hid (Lim w1 A2 n2 c2 xs2) := H2.out.below hB
  replace H3 : Hid (Lim w1 A3 n3 c3 xs3) := H3.out.below hB
  replace H4 : Hid (Lim w1 A4 n4 c4 xs4) := H4.out.below hB
  replace HB : Hid (Ib w1 w.heap.size g1 A1 n1 c1 e1 g2 A2 n2 c2 e2) := HB.out.below hB
  replace HC : Hid (Ib w1 (w.heap.size + 1) g3 A3 n3 c3 e3 g4 A4 n4 c4 e4) := HC.out.below hB
  replace HS := Lib.hid (HS.out.trans (hB.mono HS.out.size))
  clear hB K1
  have HB_0 := HB.out.x0
  have HB_1 := HB.out.x1
  have HB_2 := HB.out.x2
  have HB_3 := HB.out.x3
  have HB_4 := HB.out.x4
  have HB_5 := HB.out.x5
  have HC_0 := HC.out.x0
  have HC_1 := HC.out.x1
  have HC_2 := HC.out.x2
  have HC_3 := HC.out.x3
  have HC_4 := HC.out.x4
  have HC_5 := HC.out.x5
  cases v1
  · skip
    have Hfin := Lib.hid HS.out
    clear HS HT H1 H2 H3 H4 HB HC h1 h2 h3 h4 HVA HVB q2 q3 q4 q5 q6
    go_wp2
    go_ret
    exact ⟨rfl, Hfin.out⟩
  · skip
    have K2 := ihas_l v2 v3 v4 d3 d4 d1 g3 A3 n3 c3 xs3 e3 g4 A4 n4 c4 xs4 e4 g1 A1 n1 c1 xs1 e1 w1 H3.out b3 H4.out b4 H1.out b1 HT.out h3 h4 h1 q2 q3 q4
    rw [HVA.out] at K2
    replace K2 := Lib.hid K2
    go_wp2_with fail
    refine K2.out.mono ?_
    rintro e w2 ⟨rfl, hB⟩
    clear HB_0 HB_1 HB_2 HB_3 HB_4 HB_5 HC_0 HC_1 HC_2 HC_3 HC_4 HC_5
    replace HT : Hid (Tab w2) := HT.out.below hB
    replace H1 : Hid (Lim w2 A1 n1 c1 xs1) := H1.out.below hB
    replace H2 : Hid (Lim w2 A2 n2 c2 xs2) := H2.out.below hB
    replace H3 : Hid (Lim w2 A3 n3 c3 xs3) := H3.out.below hB
    replace H4 : Hid (Lim w2 A4 n4 c4 xs4) := H4.out.below hB
    replace HB : Hid (Ib w2 w.heap.size g1 A1 n1 c1 e1 g2 A2 n2 c2 e2) := HB.out.below hB
    replace HC : Hid (Ib w2 (w.heap.size + 1) g3 A3 n3 c3 e3 g4 A4 n4 c4 e4) := HC.out.below hB
    replace HS := Lib.hid (HS.out.trans (hB.mono HS.out.size))
    clear hB K2
    have HB_0 := HB.out.x0
    have HB_1 := HB.out.x1
    have HB_2 := HB.out.x2
    have HB_3 := HB.out.x3
    have HB_4 := HB.out.x4
    have HB_5 := HB.out.x5
    have HC_0 := HC.out.x0
    have HC_1 := HC.out.x1
    have HC_2 := HC.out.x2
    have HC_3 := HC.out.x3
    have HC_4 := HC.out.x4
    have HC_5 := HC.out.x5
    clear HVA
    cases va
    · skip
      have Hfin := Lib.hid HS.out
      clear HS HT H1 H2 H3 H4 HB HC h1 h2 h3 h4 HVB q2 q3 q4 q5 q6
      go_wp2
      go_ret
      exact ⟨rfl, Hfin.out⟩
    · skip
      have K3 := ihas_l v2 v5 v6 d3 d4 d2 g3 A3 n3 c3 xs3 e3 g4 A4 n4 c4 xs4 e4 g2 A2 n2 c2 xs2 e2 w2 H3.out b3 H4.out b4 H2.out b2 HT.out h3 h4 h2 q2 q5 q6
      rw [HVB.out] at K3
      replace K3 := Lib.hid K3
      go_wp2_with fail
      refine K3.out.mono ?_
      rintro e w3 ⟨rfl, hB⟩
      clear HB_0 HB_1 HB_2 HB_3 HB_4 HB_5 HC_0 HC_1 HC_2 HC_3 HC_4 HC_5
      replace HT : Hid (Tab w3) := HT.out.below hB
      replace H1 : Hid (Lim w3 A1 n1 c1 xs1) := H1.out.below hB
      replace H2 : Hid (Lim w3 A2 n2 c2 xs2) := H2.out.below hB
      replace H3 : Hid (Lim w3 A3 n3 c3 xs3) := H3.out.below hB
      replace H4 : Hid (Lim w3 A4 n4 c4 xs4) := H4.out.below hB
      replace HB : Hid (Ib w3 w.heap.size g1 A1 n1 c1 e1 g2 A2 n2 c2 e2) := HB.out.below hB
      replace HC : Hid (Ib w3 (w.heap.size + 1) g3 A3 n3 c3 e3 g4 A4 n4 c4 e4) := HC.out.below hB
      replace HS := Lib.hid (HS.out.trans (hB.mono HS.out.size))
      clear hB K3
      have Hfin := Lib.hid HS.out
      clear HS HT H1 H2 H3 H4 HB HC h1 h2 h3 h4 HVB q2 q3 q4 q5 q6
      go_wp2
      go_ret
      exact ⟨rfl, Hfin.out⟩
end Go.Proofs.YtafgooiakmmfkaaDoor
