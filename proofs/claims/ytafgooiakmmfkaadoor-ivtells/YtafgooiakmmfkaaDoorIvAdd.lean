/- The walks of iv.Add and iv.Wide (written by law_iv2.py). -/
import Derived.Test.YtafgooiakmmfkaaDoorIvAt
import Derived.Test.YtafgooiakmmfkaaDoorK2
namespace Go.Proofs.YtafgooiakmmfkaaDoor
open Go.RowKit

set_option maxHeartbeats 4000000 in
set_option maxRecDepth 20000 in
theorem ivadd_yes (s t d1 d2 d3 d4 : Dy) (g1 : Bool) (A1 : Option Addr) (n1 c1 : Nat) (xs1 : List Nat) (e1 : Int) (g2 : Bool) (A2 : Option Addr) (n2 c2 : Nat) (xs2 : List Nat) (e2 : Int) (g3 : Bool) (A3 : Option Addr) (n3 c3 : Nat) (xs3 : List Nat) (e3 : Int) (g4 : Bool) (A4 : Option Addr) (n4 c4 : Nat) (xs4 : List Nat) (e4 : Int) (w : World) (l1 : Lim w A1 n1 c1 xs1) (b1 : n1 ≤ 30000) (l2 : Lim w A2 n2 c2 xs2) (b2 : n2 ≤ 30000) (l3 : Lim w A3 n3 c3 xs3) (b3 : n3 ≤ 30000) (l4 : Lim w A4 n4 c4 xs4) (b4 : n4 ≤ 30000) (hT : Tab w) (h1 : Hid (mk g1 (val xs1) e1 = some d1)) (h2 : Hid (mk g2 (val xs2) e2 = some d2)) (h3 : Hid (mk g3 (val xs3) e3 = some d3)) (h4 : Hid (mk g4 (val xs4) e4 = some d4))
    (q1 : Hid (decide ((dw g1 (val xs1) e1) ≤ (dw g2 (val xs2) e2)) = true)) (q2 : Hid (decide ((dw g3 (val xs3) e3) ≤ (dw g4 (val xs4) e4)) = true)) (o1 : Hid (addO (mk g1 (val xs1) e1) (mk g3 (val xs3) e3) = some s)) (o2 : Hid (addO (mk g2 (val xs2) e2) (mk g4 (val xs4) e4) = some t)) :
    Calls Tryd.prog 11 #[.agg #[.bool g1, .slice A1 n1 c1, .int .i64 e1, .bool g2, .slice A2 n2 c2, .int .i64 e2], .agg #[.bool g3, .slice A3 n3 c3, .int .i64 e3, .bool g4, .slice A4 n4 c4, .int .i64 e4]] w (VTold w (fun X Y r _ _ => r = 0 ∧ X = s ∧ Y = t)) := by
  obtain ⟨P0, hP0⟩ : ∃ P0 : Dy → Dy → Int → Nat → Nat → Prop, P0 = (fun X Y r _ _ => r = 0 ∧ X = s ∧ Y = t) := ⟨_, rfl⟩
  rw [← hP0]
  have HP0 : Hid (∀ m1 m2, P0 s t 0 m1 m2) := fun _ _ => by rw [hP0]; exact ⟨rfl, rfl, rfl⟩
  clear hP0
  have HT := Lib.hid hT
  have HS := Lib.hid (Below.refl w.heap.size w)
  have H1 : Hid (Lim w A1 n1 c1 xs1) := l1
  have H2 : Hid (Lim w A2 n2 c2 xs2) := l2
  have H3 : Hid (Lim w A3 n3 c3 xs3) := l3
  have H4 : Hid (Lim w A4 n4 c4 xs4) := l4
  clear l1 l2 l3 l4 hT
  have ba := below1 w (.cells #[.bool g1, .slice A1 n1 c1, .int .i64 e1, .bool g2, .slice A2 n2 c2, .int .i64 e2] 38)
  replace HT : Hid (Tab (w.alloc (.cells #[.bool g1, .slice A1 n1 c1, .int .i64 e1, .bool g2, .slice A2 n2 c2, .int .i64 e2] 38))) := HT.out.below ba
  replace H1 : Hid (Lim (w.alloc (.cells #[.bool g1, .slice A1 n1 c1, .int .i64 e1, .bool g2, .slice A2 n2 c2, .int .i64 e2] 38)) A1 n1 c1 xs1) := H1.out.below ba
  replace H2 : Hid (Lim (w.alloc (.cells #[.bool g1, .slice A1 n1 c1, .int .i64 e1, .bool g2, .slice A2 n2 c2, .int .i64 e2] 38)) A2 n2 c2 xs2) := H2.out.below ba
  replace H3 : Hid (Lim (w.alloc (.cells #[.bool g1, .slice A1 n1 c1, .int .i64 e1, .bool g2, .slice A2 n2 c2, .int .i64 e2] 38)) A3 n3 c3 xs3) := H3.out.below ba
  replace H4 : Hid (Lim (w.alloc (.cells #[.bool g1, .slice A1 n1 c1, .int .i64 e1, .bool g2, .slice A2 n2 c2, .int .i64 e2] 38)) A4 n4 c4 xs4) := H4.out.below ba
  replace HS := Lib.hid (HS.out.trans (ba.mono HS.out.size))
  clear ba
  have HI : Hid (Ib (w.alloc (.cells #[.bool g1, .slice A1 n1 c1, .int .i64 e1, .bool g2, .slice A2 n2 c2, .int .i64 e2] 38)) w.heap.size g1 A1 n1 c1 e1 g2 A2 n2 c2 e2) := Ib.new w g1 A1 n1 c1 e1 g2 A2 n2 c2 e2
  have ba := below1 (w.alloc (.cells #[.bool g1, .slice A1 n1 c1, .int .i64 e1, .bool g2, .slice A2 n2 c2, .int .i64 e2] 38)) (.cells #[.bool g3, .slice A3 n3 c3, .int .i64 e3, .bool g4, .slice A4 n4 c4, .int .i64 e4] 38)
  replace HT : Hid (Tab ((w.alloc (.cells #[.bool g1, .slice A1 n1 c1, .int .i64 e1, .bool g2, .slice A2 n2 c2, .int .i64 e2] 38)).alloc (.cells #[.bool g3, .slice A3 n3 c3, .int .i64 e3, .bool g4, .slice A4 n4 c4, .int .i64 e4] 38))) := HT.out.below ba
  replace H1 : Hid (Lim ((w.alloc (.cells #[.bool g1, .slice A1 n1 c1, .int .i64 e1, .bool g2, .slice A2 n2 c2, .int .i64 e2] 38)).alloc (.cells #[.bool g3, .slice A3 n3 c3, .int .i64 e3, .bool g4, .slice A4 n4 c4, .int .i64 e4] 38)) A1 n1 c1 xs1) := H1.out.below ba
  replace H2 : Hid (Lim ((w.alloc (.cells #[.bool g1, .slice A1 n1 c1, .int .i64 e1, .bool g2, .slice A2 n2 c2, .int .i64 e2] 38)).alloc (.cells #[.bool g3, .slice A3 n3 c3, .int .i64 e3, .bool g4, .slice A4 n4 c4, .int .i64 e4] 38)) A2 n2 c2 xs2) := H2.out.below ba
  replace H3 : Hid (Lim ((w.alloc (.cells #[.bool g1, .slice A1 n1 c1, .int .i64 e1, .bool g2, .slice A2 n2 c2, .int .i64 e2] 38)).alloc (.cells #[.bool g3, .slice A3 n3 c3, .int .i64 e3, .bool g4, .slice A4 n4 c4, .int .i64 e4] 38)) A3 n3 c3 xs3) := H3.out.below ba
  replace H4 : Hid (Lim ((w.alloc (.cells #[.bool g1, .slice A1 n1 c1, .int .i64 e1, .bool g2, .slice A2 n2 c2, .int .i64 e2] 38)).alloc (.cells #[.bool g3, .slice A3 n3 c3, .int .i64 e3, .bool g4, .slice A4 n4 c4, .int .i64 e4] 38)) A4 n4 c4 xs4) := H4.out.below ba
  replace HI : Hid (Ib ((w.alloc (.cells #[.bool g1, .slice A1 n1 c1, .int .i64 e1, .bool g2, .slice A2 n2 c2, .int .i64 e2] 38)).alloc (.cells #[.bool g3, .slice A3 n3 c3, .int .i64 e3, .bool g4, .slice A4 n4 c4, .int .i64 e4] 38)) w.heap.size g1 A1 n1 c1 e1 g2 A2 n2 c2 e2) := HI.out.below ba
  replace HS := Lib.hid (HS.out.trans (ba.mono HS.out.size))
  clear ba
  have HK : Hid (Ib ((w.alloc (.cells #[.bool g1, .slice A1 n1 c1, .int .i64 e1, .bool g2, .slice A2 n2 c2, .int .i64 e2] 38)).alloc (.cells #[.bool g3, .slice A3 n3 c3, .int .i64 e3, .bool g4, .slice A4 n4 c4, .int .i64 e4] 38)) (w.heap.size + 1) g3 A3 n3 c3 e3 g4 A4 n4 c4 e4) := (by have h := Ib.new (w.alloc (.cells #[.bool g1, .slice A1 n1 c1, .int .i64 e1, .bool g2, .slice A2 n2 c2, .int .i64 e2] 38)) g3 A3 n3 c3 e3 g4 A4 n4 c4 e4; rw [World.size_alloc] at h; exact h)
  have ba := below1 ((w.alloc (.cells #[.bool g1, .slice A1 n1 c1, .int .i64 e1, .bool g2, .slice A2 n2 c2, .int .i64 e2] 38)).alloc (.cells #[.bool g3, .slice A3 n3 c3, .int .i64 e3, .bool g4, .slice A4 n4 c4, .int .i64 e4] 38)) (.cells #[.bool false, .slice none 0 0, .int .i64 0, .bool false, .slice none 0 0, .int .i64 0] 38)
  replace HT : Hid (Tab (((w.alloc (.cells #[.bool g1, .slice A1 n1 c1, .int .i64 e1, .bool g2, .slice A2 n2 c2, .int .i64 e2] 38)).alloc (.cells #[.bool g3, .slice A3 n3 c3, .int .i64 e3, .bool g4, .slice A4 n4 c4, .int .i64 e4] 38)).alloc (.cells #[.bool false, .slice none 0 0, .int .i64 0, .bool false, .slice none 0 0, .int .i64 0] 38))) := HT.out.below ba
  replace H1 : Hid (Lim (((w.alloc (.cells #[.bool g1, .slice A1 n1 c1, .int .i64 e1, .bool g2, .slice A2 n2 c2, .int .i64 e2] 38)).alloc (.cells #[.bool g3, .slice A3 n3 c3, .int .i64 e3, .bool g4, .slice A4 n4 c4, .int .i64 e4] 38)).alloc (.cells #[.bool false, .slice none 0 0, .int .i64 0, .bool false, .slice none 0 0, .int .i64 0] 38)) A1 n1 c1 xs1) := H1.out.below ba
  replace H2 : Hid (Lim (((w.alloc (.cells #[.bool g1, .slice A1 n1 c1, .int .i64 e1, .bool g2, .slice A2 n2 c2, .int .i64 e2] 38)).alloc (.cells #[.bool g3, .slice A3 n3 c3, .int .i64 e3, .bool g4, .slice A4 n4 c4, .int .i64 e4] 38)).alloc (.cells #[.bool false, .slice none 0 0, .int .i64 0, .bool false, .slice none 0 0, .int .i64 0] 38)) A2 n2 c2 xs2) := H2.out.below ba
  replace H3 : Hid (Lim (((w.alloc (.cells #[.bool g1, .slice A1 n1 c1, .int .i64 e1, .bool g2, .slice A2 n2 c2, .int .i64 e2] 38)).alloc (.cells #[.bool g3, .slice A3 n3 c3, .int .i64 e3, .bool g4, .slice A4 n4 c4, .int .i64 e4] 38)).alloc (.cells #[.bool false, .slice none 0 0, .int .i64 0, .bool false, .slice none 0 0, .int .i64 0] 38)) A3 n3 c3 xs3) := H3.out.below ba
  replace H4 : Hid (Lim (((w.alloc (.cells #[.bool g1, .slice A1 n1 c1, .int .i64 e1, .bool g2, .slice A2 n2 c2, .int .i64 e2] 38)).alloc (.cells #[.bool g3, .slice A3 n3 c3, .int .i64 e3, .bool g4, .slice A4 n4 c4, .int .i64 e4] 38)).alloc (.cells #[.bool false, .slice none 0 0, .int .i64 0, .bool false, .slice none 0 0, .int .i64 0] 38)) A4 n4 c4 xs4) := H4.out.below ba
  replace HI : Hid (Ib (((w.alloc (.cells #[.bool g1, .slice A1 n1 c1, .int .i64 e1, .bool g2, .slice A2 n2 c2, .int .i64 e2] 38)).alloc (.cells #[.bool g3, .slice A3 n3 c3, .int .i64 e3, .bool g4, .slice A4 n4 c4, .int .i64 e4] 38)).alloc (.cells #[.bool false, .slice none 0 0, .int .i64 0, .bool false, .slice none 0 0, .int .i64 0] 38)) w.heap.size g1 A1 n1 c1 e1 g2 A2 n2 c2 e2) := HI.out.below ba
  replace HK : Hid (Ib (((w.alloc (.cells #[.bool g1, .slice A1 n1 c1, .int .i64 e1, .bool g2, .slice A2 n2 c2, .int .i64 e2] 38)).alloc (.cells #[.bool g3, .slice A3 n3 c3, .int .i64 e3, .bool g4, .slice A4 n4 c4, .int .i64 e4] 38)).alloc (.cells #[.bool false, .slice none 0 0, .int .i64 0, .bool false, .slice none 0 0, .int .i64 0] 38)) (w.heap.size + 1) g3 A3 n3 c3 e3 g4 A4 n4 c4 e4) := HK.out.below ba
  replace HS := Lib.hid (HS.out.trans (ba.mono HS.out.size))
  clear ba
  have HR : Hid (Ib (((w.alloc (.cells #[.bool g1, .slice A1 n1 c1, .int .i64 e1, .bool g2, .slice A2 n2 c2, .int .i64 e2] 38)).alloc (.cells #[.bool g3, .slice A3 n3 c3, .int .i64 e3, .bool g4, .slice A4 n4 c4, .int .i64 e4] 38)).alloc (.cells #[.bool false, .slice none 0 0, .int .i64 0, .bool false, .slice none 0 0, .int .i64 0] 38)) (w.heap.size + 1 + 1) false none 0 0 0 false none 0 0 0) := (by have h := Ib.new ((w.alloc (.cells #[.bool g1, .slice A1 n1 c1, .int .i64 e1, .bool g2, .slice A2 n2 c2, .int .i64 e2] 38)).alloc (.cells #[.bool g3, .slice A3 n3 c3, .int .i64 e3, .bool g4, .slice A4 n4 c4, .int .i64 e4] 38)) false none 0 0 0 false none 0 0 0; rw [World.size_alloc, World.size_alloc] at h; exact h)
  have HI_0 := HI.out.x0
  have HI_1 := HI.out.x1
  have HI_2 := HI.out.x2
  have HI_3 := HI.out.x3
  have HI_4 := HI.out.x4
  have HI_5 := HI.out.x5
  have HK_0 := HK.out.x0
  have HK_1 := HK.out.x1
  have HK_2 := HK.out.x2
  have HK_3 := HK.out.x3
  have HK_4 := HK.out.x4
  have HK_5 := HK.out.x5
  have K1 := Lib.hid (iright_l true d1 d2 g1 A1 n1 c1 xs1 e1 g2 A2 n2 c2 xs2 e2 (((w.alloc (.cells #[.bool g1, .slice A1 n1 c1, .int .i64 e1, .bool g2, .slice A2 n2 c2, .int .i64 e2] 38)).alloc (.cells #[.bool g3, .slice A3 n3 c3, .int .i64 e3, .bool g4, .slice A4 n4 c4, .int .i64 e4] 38)).alloc (.cells #[.bool false, .slice none 0 0, .int .i64 0, .bool false, .slice none 0 0, .int .i64 0] 38)) H1.out (by omega) H2.out (by omega) HT.out h1 h2 q1)
  go_enter Tryd.func11, Tryd.ntmps11
  go_wp2_with fail
  refine K1.out.mono ?_
  rintro e w1 ⟨rfl, hB⟩
  clear HI_0 HI_1 HI_2 HI_3 HI_4 HI_5 HK_0 HK_1 HK_2 HK_3 HK_4 HK_5
  replace HT : Hid (Tab w1) := HT.out.below hB
  replace H1 : Hid (Lim w1 A1 n1 c1 xs1) := H1.out.below hB
  replace H2 : Hid (Lim w1 A2 n2 c2 xs2) := H2.out.below hB
  replace H3 : Hid (Lim w1 A3 n3 c3 xs3) := H3.out.below hB
  replace H4 : Hid (Lim w1 A4 n4 c4 xs4) := H4.out.below hB
  replace HI : Hid (Ib w1 w.heap.size g1 A1 n1 c1 e1 g2 A2 n2 c2 e2) := HI.out.below hB
  replace HK : Hid (Ib w1 (w.heap.size + 1) g3 A3 n3 c3 e3 g4 A4 n4 c4 e4) := HK.out.below hB
  replace HR : Hid (Ib w1 (w.heap.size + 1 + 1) false none 0 0 0 false none 0 0 0) := HR.out.below hB
  replace HS := Lib.hid (HS.out.trans (hB.mono HS.out.size))
  clear hB K1
  have HI_0 := HI.out.x0
  have HI_1 := HI.out.x1
  have HI_2 := HI.out.x2
  have HI_3 := HI.out.x3
  have HI_4 := HI.out.x4
  have HI_5 := HI.out.x5
  have HK_0 := HK.out.x0
  have HK_1 := HK.out.x1
  have HK_2 := HK.out.x2
  have HK_3 := HK.out.x3
  have HK_4 := HK.out.x4
  have HK_5 := HK.out.x5
  have K2 := Lib.hid (iright_l true d3 d4 g3 A3 n3 c3 xs3 e3 g4 A4 n4 c4 xs4 e4 w1 H3.out (by omega) H4.out (by omega) HT.out h3 h4 q2)
  go_wp2_with fail
  refine K2.out.mono ?_
  rintro e w2 ⟨rfl, hB⟩
  clear HI_0 HI_1 HI_2 HI_3 HI_4 HI_5 HK_0 HK_1 HK_2 HK_3 HK_4 HK_5
  replace HT : Hid (Tab w2) := HT.out.below hB
  replace H1 : Hid (Lim w2 A1 n1 c1 xs1) := H1.out.below hB
  replace H2 : Hid (Lim w2 A2 n2 c2 xs2) := H2.out.below hB
  replace H3 : Hid (Lim w2 A3 n3 c3 xs3) := H3.out.below hB
  replace H4 : Hid (Lim w2 A4 n4 c4 xs4) := H4.out.below hB
  replace HI : Hid (Ib w2 w.heap.size g1 A1 n1 c1 e1 g2 A2 n2 c2 e2) := HI.out.below hB
  replace HK : Hid (Ib w2 (w.heap.size + 1) g3 A3 n3 c3 e3 g4 A4 n4 c4 e4) := HK.out.below hB
  replace HR : Hid (Ib w2 (w.heap.size + 1 + 1) false none 0 0 0 false none 0 0 0) := HR.out.below hB
  replace HS := Lib.hid (HS.out.trans (hB.mono HS.out.size))
  clear hB K2
  have HI_0 := HI.out.x0
  have HI_1 := HI.out.x1
  have HI_2 := HI.out.x2
  have HI_3 := HI.out.x3
  have HI_4 := HI.out.x4
  have HI_5 := HI.out.x5
  have HK_0 := HK.out.x0
  have HK_1 := HK.out.x1
  have HK_2 := HK.out.x2
  have HK_3 := HK.out.x3
  have HK_4 := HK.out.x4
  have HK_5 := HK.out.x5
  have K3 := dadd_any _ g1 A1 n1 c1 xs1 e1 g3 A3 n3 c3 xs3 e3 w2 H1.out H3.out (by omega) (by omega) HT.out o1
  replace K3 := Lib.hid K3
  go_wp2_with fail
  refine K3.out.mono ?_
  rintro e w3 ⟨g3t, A3t, m3t, c3t, s3t, E3t, r3t, rfl, hm3t, hl3t, hb3t, ⟨rfl, rfl, hz3t, rfl⟩, hB⟩
  clear HI_0 HI_1 HI_2 HI_3 HI_4 HI_5 HK_0 HK_1 HK_2 HK_3 HK_4 HK_5
  replace HT : Hid (Tab w3) := HT.out.below hB
  replace H1 : Hid (Lim w3 A1 n1 c1 xs1) := H1.out.below hB
  replace H2 : Hid (Lim w3 A2 n2 c2 xs2) := H2.out.below hB
  replace H3 : Hid (Lim w3 A3 n3 c3 xs3) := H3.out.below hB
  replace H4 : Hid (Lim w3 A4 n4 c4 xs4) := H4.out.below hB
  replace HI : Hid (Ib w3 w.heap.size g1 A1 n1 c1 e1 g2 A2 n2 c2 e2) := HI.out.below hB
  replace HK : Hid (Ib w3 (w.heap.size + 1) g3 A3 n3 c3 e3 g4 A4 n4 c4 e4) := HK.out.below hB
  replace HR : Hid (Ib w3 (w.heap.size + 1 + 1) false none 0 0 0 false none 0 0 0) := HR.out.below hB
  replace HS := Lib.hid (HS.out.trans (hB.mono HS.out.size))
  have HL3t : Hid (Lim w3 A3t m3t c3t s3t) := hl3t
  have HV3t : Hid (Bare s3t ∧ val s3t = s.V) := ⟨hb3t, hz3t⟩
  clear hl3t hb3t hz3t hB K3
  have ba := below1 w3 (.cells #[.bool s.neg, .slice A3t m3t c3t, .int .i64 s.e] 36)
  replace HT : Hid (Tab (w3.alloc (.cells #[.bool s.neg, .slice A3t m3t c3t, .int .i64 s.e] 36))) := HT.out.below ba
  replace H1 : Hid (Lim (w3.alloc (.cells #[.bool s.neg, .slice A3t m3t c3t, .int .i64 s.e] 36)) A1 n1 c1 xs1) := H1.out.below ba
  replace H2 : Hid (Lim (w3.alloc (.cells #[.bool s.neg, .slice A3t m3t c3t, .int .i64 s.e] 36)) A2 n2 c2 xs2) := H2.out.below ba
  replace H3 : Hid (Lim (w3.alloc (.cells #[.bool s.neg, .slice A3t m3t c3t, .int .i64 s.e] 36)) A3 n3 c3 xs3) := H3.out.below ba
  replace H4 : Hid (Lim (w3.alloc (.cells #[.bool s.neg, .slice A3t m3t c3t, .int .i64 s.e] 36)) A4 n4 c4 xs4) := H4.out.below ba
  replace HI : Hid (Ib (w3.alloc (.cells #[.bool s.neg, .slice A3t m3t c3t, .int .i64 s.e] 36)) w.heap.size g1 A1 n1 c1 e1 g2 A2 n2 c2 e2) := HI.out.below ba
  replace HK : Hid (Ib (w3.alloc (.cells #[.bool s.neg, .slice A3t m3t c3t, .int .i64 s.e] 36)) (w.heap.size + 1) g3 A3 n3 c3 e3 g4 A4 n4 c4 e4) := HK.out.below ba
  replace HR : Hid (Ib (w3.alloc (.cells #[.bool s.neg, .slice A3t m3t c3t, .int .i64 s.e] 36)) (w.heap.size + 1 + 1) false none 0 0 0 false none 0 0 0) := HR.out.below ba
  replace HL3t : Hid (Lim (w3.alloc (.cells #[.bool s.neg, .slice A3t m3t c3t, .int .i64 s.e] 36)) A3t m3t c3t s3t) := HL3t.out.below ba
  replace HS := Lib.hid (HS.out.trans (ba.mono HS.out.size))
  clear ba
  have HN3t : Hid (Bd (w3.alloc (.cells #[.bool s.neg, .slice A3t m3t c3t, .int .i64 s.e] 36)) w3.heap.size 36 s.neg A3t m3t c3t s.e) := Bd.new w3 36 s.neg A3t m3t c3t s.e
  have HI_0 := HI.out.x0
  have HI_1 := HI.out.x1
  have HI_2 := HI.out.x2
  have HI_3 := HI.out.x3
  have HI_4 := HI.out.x4
  have HI_5 := HI.out.x5
  have HK_0 := HK.out.x0
  have HK_1 := HK.out.x1
  have HK_2 := HK.out.x2
  have HK_3 := HK.out.x3
  have HK_4 := HK.out.x4
  have HK_5 := HK.out.x5
  have K4 := dadd_any _ g2 A2 n2 c2 xs2 e2 g4 A4 n4 c4 xs4 e4 (w3.alloc (.cells #[.bool s.neg, .slice A3t m3t c3t, .int .i64 s.e] 36)) H2.out H4.out (by omega) (by omega) HT.out o2
  replace K4 := Lib.hid K4
  go_wp2_with fail
  refine K4.out.mono ?_
  rintro e w4 ⟨g4t, A4t, m4t, c4t, s4t, E4t, r4t, rfl, hm4t, hl4t, hb4t, ⟨rfl, rfl, hz4t, rfl⟩, hB⟩
  clear HI_0 HI_1 HI_2 HI_3 HI_4 HI_5 HK_0 HK_1 HK_2 HK_3 HK_4 HK_5
  replace HT : Hid (Tab w4) := HT.out.below hB
  replace H1 : Hid (Lim w4 A1 n1 c1 xs1) := H1.out.below hB
  replace H2 : Hid (Lim w4 A2 n2 c2 xs2) := H2.out.below hB
  replace H3 : Hid (Lim w4 A3 n3 c3 xs3) := H3.out.below hB
  replace H4 : Hid (Lim w4 A4 n4 c4 xs4) := H4.out.below hB
  replace HI : Hid (Ib w4 w.heap.size g1 A1 n1 c1 e1 g2 A2 n2 c2 e2) := HI.out.below hB
  replace HK : Hid (Ib w4 (w.heap.size + 1) g3 A3 n3 c3 e3 g4 A4 n4 c4 e4) := HK.out.below hB
  replace HR : Hid (Ib w4 (w.heap.size + 1 + 1) false none 0 0 0 false none 0 0 0) := HR.out.below hB
  replace HL3t : Hid (Lim w4 A3t m3t c3t s3t) := HL3t.out.below hB
  replace HN3t : Hid (Bd w4 w3.heap.size 36 s.neg A3t m3t c3t s.e) := HN3t.out.below hB
  replace HS := Lib.hid (HS.out.trans (hB.mono HS.out.size))
  have HL4t : Hid (Lim w4 A4t m4t c4t s4t) := hl4t
  have HV4t : Hid (Bare s4t ∧ val s4t = t.V) := ⟨hb4t, hz4t⟩
  clear hl4t hb4t hz4t hB K4
  have ba := below1 w4 (.cells #[.bool t.neg, .slice A4t m4t c4t, .int .i64 t.e] 36)
  replace HT : Hid (Tab (w4.alloc (.cells #[.bool t.neg, .slice A4t m4t c4t, .int .i64 t.e] 36))) := HT.out.below ba
  replace H1 : Hid (Lim (w4.alloc (.cells #[.bool t.neg, .slice A4t m4t c4t, .int .i64 t.e] 36)) A1 n1 c1 xs1) := H1.out.below ba
  replace H2 : Hid (Lim (w4.alloc (.cells #[.bool t.neg, .slice A4t m4t c4t, .int .i64 t.e] 36)) A2 n2 c2 xs2) := H2.out.below ba
  replace H3 : Hid (Lim (w4.alloc (.cells #[.bool t.neg, .slice A4t m4t c4t, .int .i64 t.e] 36)) A3 n3 c3 xs3) := H3.out.below ba
  replace H4 : Hid (Lim (w4.alloc (.cells #[.bool t.neg, .slice A4t m4t c4t, .int .i64 t.e] 36)) A4 n4 c4 xs4) := H4.out.below ba
  replace HI : Hid (Ib (w4.alloc (.cells #[.bool t.neg, .slice A4t m4t c4t, .int .i64 t.e] 36)) w.heap.size g1 A1 n1 c1 e1 g2 A2 n2 c2 e2) := HI.out.below ba
  replace HK : Hid (Ib (w4.alloc (.cells #[.bool t.neg, .slice A4t m4t c4t, .int .i64 t.e] 36)) (w.heap.size + 1) g3 A3 n3 c3 e3 g4 A4 n4 c4 e4) := HK.out.below ba
  replace HR : Hid (Ib (w4.alloc (.cells #[.bool t.neg, .slice A4t m4t c4t, .int .i64 t.e] 36)) (w.heap.size + 1 + 1) false none 0 0 0 false none 0 0 0) := HR.out.below ba
  replace HL3t : Hid (Lim (w4.alloc (.cells #[.bool t.neg, .slice A4t m4t c4t, .int .i64 t.e] 36)) A3t m3t c3t s3t) := HL3t.out.below ba
  replace HN3t : Hid (Bd (w4.alloc (.cells #[.bool t.neg, .slice A4t m4t c4t, .int .i64 t.e] 36)) w3.heap.size 36 s.neg A3t m3t c3t s.e) := HN3t.out.below ba
  replace HL4t : Hid (Lim (w4.alloc (.cells #[.bool t.neg, .slice A4t m4t c4t, .int .i64 t.e] 36)) A4t m4t c4t s4t) := HL4t.out.below ba
  replace HS := Lib.hid (HS.out.trans (ba.mono HS.out.size))
  clear ba
  have HN4t : Hid (Bd (w4.alloc (.cells #[.bool t.neg, .slice A4t m4t c4t, .int .i64 t.e] 36)) w4.heap.size 36 t.neg A4t m4t c4t t.e) := Bd.new w4 36 t.neg A4t m4t c4t t.e
  have Hfin : Hid (VTold w P0 (.returned (.tuple #[.agg #[.bool s.neg, .slice A3t m3t c3t, .int .i64 s.e, .bool t.neg, .slice A4t m4t c4t, .int .i64 t.e], .int .i64 0])) (World.put6 (w4.alloc (.cells #[.bool t.neg, .slice A4t m4t c4t, .int .i64 t.e] 36)) (w.heap.size + 1 + 1) s.neg A3t m3t c3t s.e t.neg A4t m4t c4t t.e)) := ⟨s.neg, A3t, m3t, c3t, s3t, s.e, t.neg, A4t, m4t, c4t, s4t, t.e, 0, rfl, by omega, by omega, HR.out.lim HL3t.out _ _ _ _ _ _ _ _ _ _, HR.out.lim HL4t.out _ _ _ _ _ _ _ _ _ _, HV3t.out.1, HV4t.out.1, below_put6 HS.out (by omega) _ _ _ _ _ _ _ _ _ _, by rw [HV3t.out.2, HV4t.out.2]; exact HP0.out _ _⟩
  have u0 := HR.out.x0
  have u1 := HR.out.x1
  have u2 := HR.out.x2
  have u3 := HR.out.x3
  have u4 := HR.out.x4
  have u5 := HR.out.x5
  have uf := HR.out.fz
  have y0 := HN3t.out.c0
  have z0 := HN4t.out.c0
  have y1 := HN3t.out.c1
  have z1 := HN4t.out.c1
  have y2 := HN3t.out.c2
  have z2 := HN4t.out.c2
  clear HS HT H1 H2 H3 H4 HI HK HR HL3t HN3t HL4t HN4t h1 h2 h3 h4 q1 q2 o1 o2 HV3t HV4t HP0
  go_wp2
  exact bodyPost_ret (v := .tuple #[.agg #[.bool s.neg, .slice A3t m3t c3t, .int .i64 s.e, .bool t.neg, .slice A4t m4t c4t, .int .i64 t.e], .int .i64 0]) (by simp [results, Tryd.results11, go_sem, u0, u1, u2, u3, u4, u5]) rfl Hfin.out
set_option maxHeartbeats 4000000 in
set_option maxRecDepth 20000 in
theorem ivadd_no (v1 v2 : Bool) (d1 d2 d3 d4 : Dy) (g1 : Bool) (A1 : Option Addr) (n1 c1 : Nat) (xs1 : List Nat) (e1 : Int) (g2 : Bool) (A2 : Option Addr) (n2 c2 : Nat) (xs2 : List Nat) (e2 : Int) (g3 : Bool) (A3 : Option Addr) (n3 c3 : Nat) (xs3 : List Nat) (e3 : Int) (g4 : Bool) (A4 : Option Addr) (n4 c4 : Nat) (xs4 : List Nat) (e4 : Int) (w : World) (l1 : Lim w A1 n1 c1 xs1) (b1 : n1 ≤ 30000) (l2 : Lim w A2 n2 c2 xs2) (b2 : n2 ≤ 30000) (l3 : Lim w A3 n3 c3 xs3) (b3 : n3 ≤ 30000) (l4 : Lim w A4 n4 c4 xs4) (b4 : n4 ≤ 30000) (hT : Tab w) (h1 : Hid (mk g1 (val xs1) e1 = some d1)) (h2 : Hid (mk g2 (val xs2) e2 = some d2)) (h3 : Hid (mk g3 (val xs3) e3 = some d3)) (h4 : Hid (mk g4 (val xs4) e4 = some d4))
    (q1 : Hid (decide ((dw g1 (val xs1) e1) ≤ (dw g2 (val xs2) e2)) = v1)) (q2 : Hid (decide ((dw g3 (val xs3) e3) ≤ (dw g4 (val xs4) e4)) = v2)) (hno : (v1 && v2) = false) :
    Calls Tryd.prog 11 #[.agg #[.bool g1, .slice A1 n1 c1, .int .i64 e1, .bool g2, .slice A2 n2 c2, .int .i64 e2], .agg #[.bool g3, .slice A3 n3 c3, .int .i64 e3, .bool g4, .slice A4 n4 c4, .int .i64 e4]] w (VTold w (fun _ _ r m1 m2 => r = 1 ∧ m1 = 0 ∧ m2 = 0)) := by
  obtain ⟨P0, hP0⟩ : ∃ P0 : Dy → Dy → Int → Nat → Nat → Prop, P0 = (fun _ _ r m1 m2 => r = 1 ∧ m1 = 0 ∧ m2 = 0) := ⟨_, rfl⟩
  rw [← hP0]
  have HP0 : Hid (P0 ⟨false, 0, 0⟩ ⟨false, 0, 0⟩ 1 0 0) := by rw [hP0]; exact ⟨rfl, rfl, rfl⟩
  clear hP0
  have HT := Lib.hid hT
  have HS := Lib.hid (Below.refl w.heap.size w)
  have H1 : Hid (Lim w A1 n1 c1 xs1) := l1
  have H2 : Hid (Lim w A2 n2 c2 xs2) := l2
  have H3 : Hid (Lim w A3 n3 c3 xs3) := l3
  have H4 : Hid (Lim w A4 n4 c4 xs4) := l4
  clear l1 l2 l3 l4 hT
  have ba := below1 w (.cells #[.bool g1, .slice A1 n1 c1, .int .i64 e1, .bool g2, .slice A2 n2 c2, .int .i64 e2] 38)
  replace HT : Hid (Tab (w.alloc (.cells #[.bool g1, .slice A1 n1 c1, .int .i64 e1, .bool g2, .slice A2 n2 c2, .int .i64 e2] 38))) := HT.out.below ba
  replace H1 : Hid (Lim (w.alloc (.cells #[.bool g1, .slice A1 n1 c1, .int .i64 e1, .bool g2, .slice A2 n2 c2, .int .i64 e2] 38)) A1 n1 c1 xs1) := H1.out.below ba
  replace H2 : Hid (Lim (w.alloc (.cells #[.bool g1, .slice A1 n1 c1, .int .i64 e1, .bool g2, .slice A2 n2 c2, .int .i64 e2] 38)) A2 n2 c2 xs2) := H2.out.below ba
  replace H3 : Hid (Lim (w.alloc (.cells #[.bool g1, .slice A1 n1 c1, .int .i64 e1, .bool g2, .slice A2 n2 c2, .int .i64 e2] 38)) A3 n3 c3 xs3) := H3.out.below ba
  replace H4 : Hid (Lim (w.alloc (.cells #[.bool g1, .slice A1 n1 c1, .int .i64 e1, .bool g2, .slice A2 n2 c2, .int .i64 e2] 38)) A4 n4 c4 xs4) := H4.out.below ba
  replace HS := Lib.hid (HS.out.trans (ba.mono HS.out.size))
  clear ba
  have HI : Hid (Ib (w.alloc (.cells #[.bool g1, .slice A1 n1 c1, .int .i64 e1, .bool g2, .slice A2 n2 c2, .int .i64 e2] 38)) w.heap.size g1 A1 n1 c1 e1 g2 A2 n2 c2 e2) := Ib.new w g1 A1 n1 c1 e1 g2 A2 n2 c2 e2
  have ba := below1 (w.alloc (.cells #[.bool g1, .slice A1 n1 c1, .int .i64 e1, .bool g2, .slice A2 n2 c2, .int .i64 e2] 38)) (.cells #[.bool g3, .slice A3 n3 c3, .int .i64 e3, .bool g4, .slice A4 n4 c4, .int .i64 e4] 38)
  replace HT : Hid (Tab ((w.alloc (.cells #[.bool g1, .slice A1 n1 c1, .int .i64 e1, .bool g2, .slice A2 n2 c2, .int .i64 e2] 38)).alloc (.cells #[.bool g3, .slice A3 n3 c3, .int .i64 e3, .bool g4, .slice A4 n4 c4, .int .i64 e4] 38))) := HT.out.below ba
  replace H1 : Hid (Lim ((w.alloc (.cells #[.bool g1, .slice A1 n1 c1, .int .i64 e1, .bool g2, .slice A2 n2 c2, .int .i64 e2] 38)).alloc (.cells #[.bool g3, .slice A3 n3 c3, .int .i64 e3, .bool g4, .slice A4 n4 c4, .int .i64 e4] 38)) A1 n1 c1 xs1) := H1.out.below ba
  replace H2 : Hid (Lim ((w.alloc (.cells #[.bool g1, .slice A1 n1 c1, .int .i64 e1, .bool g2, .slice A2 n2 c2, .int .i64 e2] 38)).alloc (.cells #[.bool g3, .slice A3 n3 c3, .int .i64 e3, .bool g4, .slice A4 n4 c4, .int .i64 e4] 38)) A2 n2 c2 xs2) := H2.out.below ba
  replace H3 : Hid (Lim ((w.alloc (.cells #[.bool g1, .slice A1 n1 c1, .int .i64 e1, .bool g2, .slice A2 n2 c2, .int .i64 e2] 38)).alloc (.cells #[.bool g3, .slice A3 n3 c3, .int .i64 e3, .bool g4, .slice A4 n4 c4, .int .i64 e4] 38)) A3 n3 c3 xs3) := H3.out.below ba
  replace H4 : Hid (Lim ((w.alloc (.cells #[.bool g1, .slice A1 n1 c1, .int .i64 e1, .bool g2, .slice A2 n2 c2, .int .i64 e2] 38)).alloc (.cells #[.bool g3, .slice A3 n3 c3, .int .i64 e3, .bool g4, .slice A4 n4 c4, .int .i64 e4] 38)) A4 n4 c4 xs4) := H4.out.below ba
  replace HI : Hid (Ib ((w.alloc (.cells #[.bool g1, .slice A1 n1 c1, .int .i64 e1, .bool g2, .slice A2 n2 c2, .int .i64 e2] 38)).alloc (.cells #[.bool g3, .slice A3 n3 c3, .int .i64 e3, .bool g4, .slice A4 n4 c4, .int .i64 e4] 38)) w.heap.size g1 A1 n1 c1 e1 g2 A2 n2 c2 e2) := HI.out.below ba
  replace HS := Lib.hid (HS.out.trans (ba.mono HS.out.size))
  clear ba
  have HK : Hid (Ib ((w.alloc (.cells #[.bool g1, .slice A1 n1 c1, .int .i64 e1, .bool g2, .slice A2 n2 c2, .int .i64 e2] 38)).alloc (.cells #[.bool g3, .slice A3 n3 c3, .int .i64 e3, .bool g4, .slice A4 n4 c4, .int .i64 e4] 38)) (w.heap.size + 1) g3 A3 n3 c3 e3 g4 A4 n4 c4 e4) := (by have h := Ib.new (w.alloc (.cells #[.bool g1, .slice A1 n1 c1, .int .i64 e1, .bool g2, .slice A2 n2 c2, .int .i64 e2] 38)) g3 A3 n3 c3 e3 g4 A4 n4 c4 e4; rw [World.size_alloc] at h; exact h)
  have ba := below1 ((w.alloc (.cells #[.bool g1, .slice A1 n1 c1, .int .i64 e1, .bool g2, .slice A2 n2 c2, .int .i64 e2] 38)).alloc (.cells #[.bool g3, .slice A3 n3 c3, .int .i64 e3, .bool g4, .slice A4 n4 c4, .int .i64 e4] 38)) (.cells #[.bool false, .slice none 0 0, .int .i64 0, .bool false, .slice none 0 0, .int .i64 0] 38)
  replace HT : Hid (Tab (((w.alloc (.cells #[.bool g1, .slice A1 n1 c1, .int .i64 e1, .bool g2, .slice A2 n2 c2, .int .i64 e2] 38)).alloc (.cells #[.bool g3, .slice A3 n3 c3, .int .i64 e3, .bool g4, .slice A4 n4 c4, .int .i64 e4] 38)).alloc (.cells #[.bool false, .slice none 0 0, .int .i64 0, .bool false, .slice none 0 0, .int .i64 0] 38))) := HT.out.below ba
  replace H1 : Hid (Lim (((w.alloc (.cells #[.bool g1, .slice A1 n1 c1, .int .i64 e1, .bool g2, .slice A2 n2 c2, .int .i64 e2] 38)).alloc (.cells #[.bool g3, .slice A3 n3 c3, .int .i64 e3, .bool g4, .slice A4 n4 c4, .int .i64 e4] 38)).alloc (.cells #[.bool false, .slice none 0 0, .int .i64 0, .bool false, .slice none 0 0, .int .i64 0] 38)) A1 n1 c1 xs1) := H1.out.below ba
  replace H2 : Hid (Lim (((w.alloc (.cells #[.bool g1, .slice A1 n1 c1, .int .i64 e1, .bool g2, .slice A2 n2 c2, .int .i64 e2] 38)).alloc (.cells #[.bool g3, .slice A3 n3 c3, .int .i64 e3, .bool g4, .slice A4 n4 c4, .int .i64 e4] 38)).alloc (.cells #[.bool false, .slice none 0 0, .int .i64 0, .bool false, .slice none 0 0, .int .i64 0] 38)) A2 n2 c2 xs2) := H2.out.below ba
  replace H3 : Hid (Lim (((w.alloc (.cells #[.bool g1, .slice A1 n1 c1, .int .i64 e1, .bool g2, .slice A2 n2 c2, .int .i64 e2] 38)).alloc (.cells #[.bool g3, .slice A3 n3 c3, .int .i64 e3, .bool g4, .slice A4 n4 c4, .int .i64 e4] 38)).alloc (.cells #[.bool false, .slice none 0 0, .int .i64 0, .bool false, .slice none 0 0, .int .i64 0] 38)) A3 n3 c3 xs3) := H3.out.below ba
  replace H4 : Hid (Lim (((w.alloc (.cells #[.bool g1, .slice A1 n1 c1, .int .i64 e1, .bool g2, .slice A2 n2 c2, .int .i64 e2] 38)).alloc (.cells #[.bool g3, .slice A3 n3 c3, .int .i64 e3, .bool g4, .slice A4 n4 c4, .int .i64 e4] 38)).alloc (.cells #[.bool false, .slice none 0 0, .int .i64 0, .bool false, .slice none 0 0, .int .i64 0] 38)) A4 n4 c4 xs4) := H4.out.below ba
  replace HI : Hid (Ib (((w.alloc (.cells #[.bool g1, .slice A1 n1 c1, .int .i64 e1, .bool g2, .slice A2 n2 c2, .int .i64 e2] 38)).alloc (.cells #[.bool g3, .slice A3 n3 c3, .int .i64 e3, .bool g4, .slice A4 n4 c4, .int .i64 e4] 38)).alloc (.cells #[.bool false, .slice none 0 0, .int .i64 0, .bool false, .slice none 0 0, .int .i64 0] 38)) w.heap.size g1 A1 n1 c1 e1 g2 A2 n2 c2 e2) := HI.out.below ba
  replace HK : Hid (Ib (((w.alloc (.cells #[.bool g1, .slice A1 n1 c1, .int .i64 e1, .bool g2, .slice A2 n2 c2, .int .i64 e2] 38)).alloc (.cells #[.bool g3, .slice A3 n3 c3, .int .i64 e3, .bool g4, .slice A4 n4 c4, .int .i64 e4] 38)).alloc (.cells #[.bool false, .slice none 0 0, .int .i64 0, .bool false, .slice none 0 0, .int .i64 0] 38)) (w.heap.size + 1) g3 A3 n3 c3 e3 g4 A4 n4 c4 e4) := HK.out.below ba
  replace HS := Lib.hid (HS.out.trans (ba.mono HS.out.size))
  clear ba
  have HR : Hid (Ib (((w.alloc (.cells #[.bool g1, .slice A1 n1 c1, .int .i64 e1, .bool g2, .slice A2 n2 c2, .int .i64 e2] 38)).alloc (.cells #[.bool g3, .slice A3 n3 c3, .int .i64 e3, .bool g4, .slice A4 n4 c4, .int .i64 e4] 38)).alloc (.cells #[.bool false, .slice none 0 0, .int .i64 0, .bool false, .slice none 0 0, .int .i64 0] 38)) (w.heap.size + 1 + 1) false none 0 0 0 false none 0 0 0) := (by have h := Ib.new ((w.alloc (.cells #[.bool g1, .slice A1 n1 c1, .int .i64 e1, .bool g2, .slice A2 n2 c2, .int .i64 e2] 38)).alloc (.cells #[.bool g3, .slice A3 n3 c3, .int .i64 e3, .bool g4, .slice A4 n4 c4, .int .i64 e4] 38)) false none 0 0 0 false none 0 0 0; rw [World.size_alloc, World.size_alloc] at h; exact h)
  have HI_0 := HI.out.x0
  have HI_1 := HI.out.x1
  have HI_2 := HI.out.x2
  have HI_3 := HI.out.x3
  have HI_4 := HI.out.x4
  have HI_5 := HI.out.x5
  have HK_0 := HK.out.x0
  have HK_1 := HK.out.x1
  have HK_2 := HK.out.x2
  have HK_3 := HK.out.x3
  have HK_4 := HK.out.x4
  have HK_5 := HK.out.x5
  have K1 := Lib.hid (iright_l v1 d1 d2 g1 A1 n1 c1 xs1 e1 g2 A2 n2 c2 xs2 e2 (((w.alloc (.cells #[.bool g1, .slice A1 n1 c1, .int .i64 e1, .bool g2, .slice A2 n2 c2, .int .i64 e2] 38)).alloc (.cells #[.bool g3, .slice A3 n3 c3, .int .i64 e3, .bool g4, .slice A4 n4 c4, .int .i64 e4] 38)).alloc (.cells #[.bool false, .slice none 0 0, .int .i64 0, .bool false, .slice none 0 0, .int .i64 0] 38)) H1.out (by omega) H2.out (by omega) HT.out h1 h2 q1)
  have HNO := Lib.hid hno
  clear hno
  go_enter Tryd.func11, Tryd.ntmps11
  go_wp2_with fail
  refine K1.out.mono ?_
  rintro e w1 ⟨rfl, hB⟩
  clear HI_0 HI_1 HI_2 HI_3 HI_4 HI_5 HK_0 HK_1 HK_2 HK_3 HK_4 HK_5
  replace HT : Hid (Tab w1) := HT.out.below hB
  replace H1 : Hid (Lim w1 A1 n1 c1 xs1) := H1.out.below hB
  replace H2 : Hid (Lim w1 A2 n2 c2 xs2) := H2.out.below hB
  replace H3 : Hid (Lim w1 A3 n3 c3 xs3) := H3.out.below hB
  replace H4 : Hid (Lim w1 A4 n4 c4 xs4) := H4.out.below hB
  replace HI : Hid (Ib w1 w.heap.size g1 A1 n1 c1 e1 g2 A2 n2 c2 e2) := HI.out.below hB
  replace HK : Hid (Ib w1 (w.heap.size + 1) g3 A3 n3 c3 e3 g4 A4 n4 c4 e4) := HK.out.below hB
  replace HR : Hid (Ib w1 (w.heap.size + 1 + 1) false none 0 0 0 false none 0 0 0) := HR.out.below hB
  replace HS := Lib.hid (HS.out.trans (hB.mono HS.out.size))
  clear hB K1
  have HI_0 := HI.out.x0
  have HI_1 := HI.out.x1
  have HI_2 := HI.out.x2
  have HI_3 := HI.out.x3
  have HI_4 := HI.out.x4
  have HI_5 := HI.out.x5
  have HK_0 := HK.out.x0
  have HK_1 := HK.out.x1
  have HK_2 := HK.out.x2
  have HK_3 := HK.out.x3
  have HK_4 := HK.out.x4
  have HK_5 := HK.out.x5
  cases v1
  · clear HNO
    have Hfin : Hid (VTold w P0 (.returned (.tuple #[.agg #[.bool false, .slice none 0 0, .int .i64 0, .bool false, .slice none 0 0, .int .i64 0], .int .i64 1])) (World.put6 w1 (w.heap.size + 1 + 1) false none 0 0 0 false none 0 0 0)) := ⟨false, none, 0, 0, [], 0, false, none, 0, 0, [], 0, 1, rfl, by omega, by omega, Lim.nil _ _ _, Lim.nil _ _ _, rfl, rfl, below_put6 HS.out (by omega) _ _ _ _ _ _ _ _ _ _, HP0.out⟩
    clear HI_0 HI_1 HI_2 HI_3 HI_4 HI_5 HK_0 HK_1 HK_2 HK_3 HK_4 HK_5
    have u0 := HR.out.x0
    have u1 := HR.out.x1
    have u2 := HR.out.x2
    have u3 := HR.out.x3
    have u4 := HR.out.x4
    have u5 := HR.out.x5
    have uf := HR.out.fz
    clear HS HT H1 H2 H3 H4 HI HK HR h1 h2 h3 h4 q1 q2 HP0
    go_wp2
    exact bodyPost_ret (v := .tuple #[.agg #[.bool false, .slice none 0 0, .int .i64 0, .bool false, .slice none 0 0, .int .i64 0], .int .i64 1]) (by simp [results, Tryd.results11, go_sem, u0, u1, u2, u3, u4, u5]) rfl Hfin.out
  · skip
    obtain rfl : v2 = false := HNO.out
    clear HNO
    have K2 := Lib.hid (iright_l false d3 d4 g3 A3 n3 c3 xs3 e3 g4 A4 n4 c4 xs4 e4 w1 H3.out (by omega) H4.out (by omega) HT.out h3 h4 q2)
    go_wp2_with fail
    refine K2.out.mono ?_
    rintro e w2 ⟨rfl, hB⟩
    clear HI_0 HI_1 HI_2 HI_3 HI_4 HI_5 HK_0 HK_1 HK_2 HK_3 HK_4 HK_5
    replace HT : Hid (Tab w2) := HT.out.below hB
    replace H1 : Hid (Lim w2 A1 n1 c1 xs1) := H1.out.below hB
    replace H2 : Hid (Lim w2 A2 n2 c2 xs2) := H2.out.below hB
    replace H3 : Hid (Lim w2 A3 n3 c3 xs3) := H3.out.below hB
    replace H4 : Hid (Lim w2 A4 n4 c4 xs4) := H4.out.below hB
    replace HI : Hid (Ib w2 w.heap.size g1 A1 n1 c1 e1 g2 A2 n2 c2 e2) := HI.out.below hB
    replace HK : Hid (Ib w2 (w.heap.size + 1) g3 A3 n3 c3 e3 g4 A4 n4 c4 e4) := HK.out.below hB
    replace HR : Hid (Ib w2 (w.heap.size + 1 + 1) false none 0 0 0 false none 0 0 0) := HR.out.below hB
    replace HS := Lib.hid (HS.out.trans (hB.mono HS.out.size))
    clear hB K2
    have HI_0 := HI.out.x0
    have HI_1 := HI.out.x1
    have HI_2 := HI.out.x2
    have HI_3 := HI.out.x3
    have HI_4 := HI.out.x4
    have HI_5 := HI.out.x5
    have HK_0 := HK.out.x0
    have HK_1 := HK.out.x1
    have HK_2 := HK.out.x2
    have HK_3 := HK.out.x3
    have HK_4 := HK.out.x4
    have HK_5 := HK.out.x5
    have Hfin : Hid (VTold w P0 (.returned (.tuple #[.agg #[.bool false, .slice none 0 0, .int .i64 0, .bool false, .slice none 0 0, .int .i64 0], .int .i64 1])) (World.put6 w2 (w.heap.size + 1 + 1) false none 0 0 0 false none 0 0 0)) := ⟨false, none, 0, 0, [], 0, false, none, 0, 0, [], 0, 1, rfl, by omega, by omega, Lim.nil _ _ _, Lim.nil _ _ _, rfl, rfl, below_put6 HS.out (by omega) _ _ _ _ _ _ _ _ _ _, HP0.out⟩
    clear HI_0 HI_1 HI_2 HI_3 HI_4 HI_5 HK_0 HK_1 HK_2 HK_3 HK_4 HK_5
    have u0 := HR.out.x0
    have u1 := HR.out.x1
    have u2 := HR.out.x2
    have u3 := HR.out.x3
    have u4 := HR.out.x4
    have u5 := HR.out.x5
    have uf := HR.out.fz
    clear HS HT H1 H2 H3 H4 HI HK HR h1 h2 h3 h4 q1 q2 HP0
    go_wp2
    exact bodyPost_ret (v := .tuple #[.agg #[.bool false, .slice none 0 0, .int .i64 0, .bool false, .slice none 0 0, .int .i64 0], .int .i64 1]) (by simp [results, Tryd.results11, go_sem, u0, u1, u2, u3, u4, u5]) rfl Hfin.out
set_option maxHeartbeats 4000000 in
set_option maxRecDepth 20000 in
theorem ivmul_no (v1 v2 : Bool) (d1 d2 d3 d4 : Dy) (g1 : Bool) (A1 : Option Addr) (n1 c1 : Nat) (xs1 : List Nat) (e1 : Int) (g2 : Bool) (A2 : Option Addr) (n2 c2 : Nat) (xs2 : List Nat) (e2 : Int) (g3 : Bool) (A3 : Option Addr) (n3 c3 : Nat) (xs3 : List Nat) (e3 : Int) (g4 : Bool) (A4 : Option Addr) (n4 c4 : Nat) (xs4 : List Nat) (e4 : Int) (w : World) (l1 : Lim w A1 n1 c1 xs1) (b1 : n1 ≤ 30000) (l2 : Lim w A2 n2 c2 xs2) (b2 : n2 ≤ 30000) (l3 : Lim w A3 n3 c3 xs3) (b3 : n3 ≤ 30000) (l4 : Lim w A4 n4 c4 xs4) (b4 : n4 ≤ 30000) (hT : Tab w) (h1 : Hid (mk g1 (val xs1) e1 = some d1)) (h2 : Hid (mk g2 (val xs2) e2 = some d2)) (h3 : Hid (mk g3 (val xs3) e3 = some d3)) (h4 : Hid (mk g4 (val xs4) e4 = some d4))
    (q1 : Hid (decide ((dw g1 (val xs1) e1) ≤ (dw g2 (val xs2) e2)) = v1)) (q2 : Hid (decide ((dw g3 (val xs3) e3) ≤ (dw g4 (val xs4) e4)) = v2)) (hno : (v1 && v2) = false) :
    Calls Tryd.prog 13 #[.agg #[.bool g1, .slice A1 n1 c1, .int .i64 e1, .bool g2, .slice A2 n2 c2, .int .i64 e2], .agg #[.bool g3, .slice A3 n3 c3, .int .i64 e3, .bool g4, .slice A4 n4 c4, .int .i64 e4]] w (VTold w (fun _ _ r m1 m2 => r = 1 ∧ m1 = 0 ∧ m2 = 0)) := by
  obtain ⟨P0, hP0⟩ : ∃ P0 : Dy → Dy → Int → Nat → Nat → Prop, P0 = (fun _ _ r m1 m2 => r = 1 ∧ m1 = 0 ∧ m2 = 0) := ⟨_, rfl⟩
  rw [← hP0]
  have HP0 : Hid (P0 ⟨false, 0, 0⟩ ⟨false, 0, 0⟩ 1 0 0) := by rw [hP0]; exact ⟨rfl, rfl, rfl⟩
  clear hP0
  have HT := Lib.hid hT
  have HS := Lib.hid (Below.refl w.heap.size w)
  have H1 : Hid (Lim w A1 n1 c1 xs1) := l1
  have H2 : Hid (Lim w A2 n2 c2 xs2) := l2
  have H3 : Hid (Lim w A3 n3 c3 xs3) := l3
  have H4 : Hid (Lim w A4 n4 c4 xs4) := l4
  clear l1 l2 l3 l4 hT
  have ba := below1 w (.cells #[.bool g1, .slice A1 n1 c1, .int .i64 e1, .bool g2, .slice A2 n2 c2, .int .i64 e2] 38)
  replace HT : Hid (Tab (w.alloc (.cells #[.bool g1, .slice A1 n1 c1, .int .i64 e1, .bool g2, .slice A2 n2 c2, .int .i64 e2] 38))) := HT.out.below ba
  replace H1 : Hid (Lim (w.alloc (.cells #[.bool g1, .slice A1 n1 c1, .int .i64 e1, .bool g2, .slice A2 n2 c2, .int .i64 e2] 38)) A1 n1 c1 xs1) := H1.out.below ba
  replace H2 : Hid (Lim (w.alloc (.cells #[.bool g1, .slice A1 n1 c1, .int .i64 e1, .bool g2, .slice A2 n2 c2, .int .i64 e2] 38)) A2 n2 c2 xs2) := H2.out.below ba
  replace H3 : Hid (Lim (w.alloc (.cells #[.bool g1, .slice A1 n1 c1, .int .i64 e1, .bool g2, .slice A2 n2 c2, .int .i64 e2] 38)) A3 n3 c3 xs3) := H3.out.below ba
  replace H4 : Hid (Lim (w.alloc (.cells #[.bool g1, .slice A1 n1 c1, .int .i64 e1, .bool g2, .slice A2 n2 c2, .int .i64 e2] 38)) A4 n4 c4 xs4) := H4.out.below ba
  replace HS := Lib.hid (HS.out.trans (ba.mono HS.out.size))
  clear ba
  have HI : Hid (Ib (w.alloc (.cells #[.bool g1, .slice A1 n1 c1, .int .i64 e1, .bool g2, .slice A2 n2 c2, .int .i64 e2] 38)) w.heap.size g1 A1 n1 c1 e1 g2 A2 n2 c2 e2) := Ib.new w g1 A1 n1 c1 e1 g2 A2 n2 c2 e2
  have ba := below1 (w.alloc (.cells #[.bool g1, .slice A1 n1 c1, .int .i64 e1, .bool g2, .slice A2 n2 c2, .int .i64 e2] 38)) (.cells #[.bool g3, .slice A3 n3 c3, .int .i64 e3, .bool g4, .slice A4 n4 c4, .int .i64 e4] 38)
  replace HT : Hid (Tab ((w.alloc (.cells #[.bool g1, .slice A1 n1 c1, .int .i64 e1, .bool g2, .slice A2 n2 c2, .int .i64 e2] 38)).alloc (.cells #[.bool g3, .slice A3 n3 c3, .int .i64 e3, .bool g4, .slice A4 n4 c4, .int .i64 e4] 38))) := HT.out.below ba
  replace H1 : Hid (Lim ((w.alloc (.cells #[.bool g1, .slice A1 n1 c1, .int .i64 e1, .bool g2, .slice A2 n2 c2, .int .i64 e2] 38)).alloc (.cells #[.bool g3, .slice A3 n3 c3, .int .i64 e3, .bool g4, .slice A4 n4 c4, .int .i64 e4] 38)) A1 n1 c1 xs1) := H1.out.below ba
  replace H2 : Hid (Lim ((w.alloc (.cells #[.bool g1, .slice A1 n1 c1, .int .i64 e1, .bool g2, .slice A2 n2 c2, .int .i64 e2] 38)).alloc (.cells #[.bool g3, .slice A3 n3 c3, .int .i64 e3, .bool g4, .slice A4 n4 c4, .int .i64 e4] 38)) A2 n2 c2 xs2) := H2.out.below ba
  replace H3 : Hid (Lim ((w.alloc (.cells #[.bool g1, .slice A1 n1 c1, .int .i64 e1, .bool g2, .slice A2 n2 c2, .int .i64 e2] 38)).alloc (.cells #[.bool g3, .slice A3 n3 c3, .int .i64 e3, .bool g4, .slice A4 n4 c4, .int .i64 e4] 38)) A3 n3 c3 xs3) := H3.out.below ba
  replace H4 : Hid (Lim ((w.alloc (.cells #[.bool g1, .slice A1 n1 c1, .int .i64 e1, .bool g2, .slice A2 n2 c2, .int .i64 e2] 38)).alloc (.cells #[.bool g3, .slice A3 n3 c3, .int .i64 e3, .bool g4, .slice A4 n4 c4, .int .i64 e4] 38)) A4 n4 c4 xs4) := H4.out.below ba
  replace HI : Hid (Ib ((w.alloc (.cells #[.bool g1, .slice A1 n1 c1, .int .i64 e1, .bool g2, .slice A2 n2 c2, .int .i64 e2] 38)).alloc (.cells #[.bool g3, .slice A3 n3 c3, .int .i64 e3, .bool g4, .slice A4 n4 c4, .int .i64 e4] 38)) w.heap.size g1 A1 n1 c1 e1 g2 A2 n2 c2 e2) := HI.out.below ba
  replace HS := Lib.hid (HS.out.trans (ba.mono HS.out.size))
  clear ba
  have HK : Hid (Ib ((w.alloc (.cells #[.bool g1, .slice A1 n1 c1, .int .i64 e1, .bool g2, .slice A2 n2 c2, .int .i64 e2] 38)).alloc (.cells #[.bool g3, .slice A3 n3 c3, .int .i64 e3, .bool g4, .slice A4 n4 c4, .int .i64 e4] 38)) (w.heap.size + 1) g3 A3 n3 c3 e3 g4 A4 n4 c4 e4) := (by have h := Ib.new (w.alloc (.cells #[.bool g1, .slice A1 n1 c1, .int .i64 e1, .bool g2, .slice A2 n2 c2, .int .i64 e2] 38)) g3 A3 n3 c3 e3 g4 A4 n4 c4 e4; rw [World.size_alloc] at h; exact h)
  have ba := below1 ((w.alloc (.cells #[.bool g1, .slice A1 n1 c1, .int .i64 e1, .bool g2, .slice A2 n2 c2, .int .i64 e2] 38)).alloc (.cells #[.bool g3, .slice A3 n3 c3, .int .i64 e3, .bool g4, .slice A4 n4 c4, .int .i64 e4] 38)) (.cells #[.bool false, .slice none 0 0, .int .i64 0, .bool false, .slice none 0 0, .int .i64 0] 38)
  replace HT : Hid (Tab (((w.alloc (.cells #[.bool g1, .slice A1 n1 c1, .int .i64 e1, .bool g2, .slice A2 n2 c2, .int .i64 e2] 38)).alloc (.cells #[.bool g3, .slice A3 n3 c3, .int .i64 e3, .bool g4, .slice A4 n4 c4, .int .i64 e4] 38)).alloc (.cells #[.bool false, .slice none 0 0, .int .i64 0, .bool false, .slice none 0 0, .int .i64 0] 38))) := HT.out.below ba
  replace H1 : Hid (Lim (((w.alloc (.cells #[.bool g1, .slice A1 n1 c1, .int .i64 e1, .bool g2, .slice A2 n2 c2, .int .i64 e2] 38)).alloc (.cells #[.bool g3, .slice A3 n3 c3, .int .i64 e3, .bool g4, .slice A4 n4 c4, .int .i64 e4] 38)).alloc (.cells #[.bool false, .slice none 0 0, .int .i64 0, .bool false, .slice none 0 0, .int .i64 0] 38)) A1 n1 c1 xs1) := H1.out.below ba
  replace H2 : Hid (Lim (((w.alloc (.cells #[.bool g1, .slice A1 n1 c1, .int .i64 e1, .bool g2, .slice A2 n2 c2, .int .i64 e2] 38)).alloc (.cells #[.bool g3, .slice A3 n3 c3, .int .i64 e3, .bool g4, .slice A4 n4 c4, .int .i64 e4] 38)).alloc (.cells #[.bool false, .slice none 0 0, .int .i64 0, .bool false, .slice none 0 0, .int .i64 0] 38)) A2 n2 c2 xs2) := H2.out.below ba
  replace H3 : Hid (Lim (((w.alloc (.cells #[.bool g1, .slice A1 n1 c1, .int .i64 e1, .bool g2, .slice A2 n2 c2, .int .i64 e2] 38)).alloc (.cells #[.bool g3, .slice A3 n3 c3, .int .i64 e3, .bool g4, .slice A4 n4 c4, .int .i64 e4] 38)).alloc (.cells #[.bool false, .slice none 0 0, .int .i64 0, .bool false, .slice none 0 0, .int .i64 0] 38)) A3 n3 c3 xs3) := H3.out.below ba
  replace H4 : Hid (Lim (((w.alloc (.cells #[.bool g1, .slice A1 n1 c1, .int .i64 e1, .bool g2, .slice A2 n2 c2, .int .i64 e2] 38)).alloc (.cells #[.bool g3, .slice A3 n3 c3, .int .i64 e3, .bool g4, .slice A4 n4 c4, .int .i64 e4] 38)).alloc (.cells #[.bool false, .slice none 0 0, .int .i64 0, .bool false, .slice none 0 0, .int .i64 0] 38)) A4 n4 c4 xs4) := H4.out.below ba
  replace HI : Hid (Ib (((w.alloc (.cells #[.bool g1, .slice A1 n1 c1, .int .i64 e1, .bool g2, .slice A2 n2 c2, .int .i64 e2] 38)).alloc (.cells #[.bool g3, .slice A3 n3 c3, .int .i64 e3, .bool g4, .slice A4 n4 c4, .int .i64 e4] 38)).alloc (.cells #[.bool false, .slice none 0 0, .int .i64 0, .bool false, .slice none 0 0, .int .i64 0] 38)) w.heap.size g1 A1 n1 c1 e1 g2 A2 n2 c2 e2) := HI.out.below ba
  replace HK : Hid (Ib (((w.alloc (.cells #[.bool g1, .slice A1 n1 c1, .int .i64 e1, .bool g2, .slice A2 n2 c2, .int .i64 e2] 38)).alloc (.cells #[.bool g3, .slice A3 n3 c3, .int .i64 e3, .bool g4, .slice A4 n4 c4, .int .i64 e4] 38)).alloc (.cells #[.bool false, .slice none 0 0, .int .i64 0, .bool false, .slice none 0 0, .int .i64 0] 38)) (w.heap.size + 1) g3 A3 n3 c3 e3 g4 A4 n4 c4 e4) := HK.out.below ba
  replace HS := Lib.hid (HS.out.trans (ba.mono HS.out.size))
  clear ba
  have HR : Hid (Ib (((w.alloc (.cells #[.bool g1, .slice A1 n1 c1, .int .i64 e1, .bool g2, .slice A2 n2 c2, .int .i64 e2] 38)).alloc (.cells #[.bool g3, .slice A3 n3 c3, .int .i64 e3, .bool g4, .slice A4 n4 c4, .int .i64 e4] 38)).alloc (.cells #[.bool false, .slice none 0 0, .int .i64 0, .bool false, .slice none 0 0, .int .i64 0] 38)) (w.heap.size + 1 + 1) false none 0 0 0 false none 0 0 0) := (by have h := Ib.new ((w.alloc (.cells #[.bool g1, .slice A1 n1 c1, .int .i64 e1, .bool g2, .slice A2 n2 c2, .int .i64 e2] 38)).alloc (.cells #[.bool g3, .slice A3 n3 c3, .int .i64 e3, .bool g4, .slice A4 n4 c4, .int .i64 e4] 38)) false none 0 0 0 false none 0 0 0; rw [World.size_alloc, World.size_alloc] at h; exact h)
  have HI_0 := HI.out.x0
  have HI_1 := HI.out.x1
  have HI_2 := HI.out.x2
  have HI_3 := HI.out.x3
  have HI_4 := HI.out.x4
  have HI_5 := HI.out.x5
  have HK_0 := HK.out.x0
  have HK_1 := HK.out.x1
  have HK_2 := HK.out.x2
  have HK_3 := HK.out.x3
  have HK_4 := HK.out.x4
  have HK_5 := HK.out.x5
  have K1 := Lib.hid (iright_l v1 d1 d2 g1 A1 n1 c1 xs1 e1 g2 A2 n2 c2 xs2 e2 (((w.alloc (.cells #[.bool g1, .slice A1 n1 c1, .int .i64 e1, .bool g2, .slice A2 n2 c2, .int .i64 e2] 38)).alloc (.cells #[.bool g3, .slice A3 n3 c3, .int .i64 e3, .bool g4, .slice A4 n4 c4, .int .i64 e4] 38)).alloc (.cells #[.bool false, .slice none 0 0, .int .i64 0, .bool false, .slice none 0 0, .int .i64 0] 38)) H1.out (by omega) H2.out (by omega) HT.out h1 h2 q1)
  have HNO := Lib.hid hno
  clear hno
  go_enter Tryd.func13, Tryd.ntmps13
  go_wp2_with fail
  refine K1.out.mono ?_
  rintro e w1 ⟨rfl, hB⟩
  clear HI_0 HI_1 HI_2 HI_3 HI_4 HI_5 HK_0 HK_1 HK_2 HK_3 HK_4 HK_5
  replace HT : Hid (Tab w1) := HT.out.below hB
  replace H1 : Hid (Lim w1 A1 n1 c1 xs1) := H1.out.below hB
  replace H2 : Hid (Lim w1 A2 n2 c2 xs2) := H2.out.below hB
  replace H3 : Hid (Lim w1 A3 n3 c3 xs3) := H3.out.below hB
  replace H4 : Hid (Lim w1 A4 n4 c4 xs4) := H4.out.below hB
  replace HI : Hid (Ib w1 w.heap.size g1 A1 n1 c1 e1 g2 A2 n2 c2 e2) := HI.out.below hB
  replace HK : Hid (Ib w1 (w.heap.size + 1) g3 A3 n3 c3 e3 g4 A4 n4 c4 e4) := HK.out.below hB
  replace HR : Hid (Ib w1 (w.heap.size + 1 + 1) false none 0 0 0 false none 0 0 0) := HR.out.below hB
  replace HS := Lib.hid (HS.out.trans (hB.mono HS.out.size))
  clear hB K1
  have HI_0 := HI.out.x0
  have HI_1 := HI.out.x1
  have HI_2 := HI.out.x2
  have HI_3 := HI.out.x3
  have HI_4 := HI.out.x4
  have HI_5 := HI.out.x5
  have HK_0 := HK.out.x0
  have HK_1 := HK.out.x1
  have HK_2 := HK.out.x2
  have HK_3 := HK.out.x3
  have HK_4 := HK.out.x4
  have HK_5 := HK.out.x5
  cases v1
  · clear HNO
    have Hfin : Hid (VTold w P0 (.returned (.tuple #[.agg #[.bool false, .slice none 0 0, .int .i64 0, .bool false, .slice none 0 0, .int .i64 0], .int .i64 1])) (World.put6 w1 (w.heap.size + 1 + 1) false none 0 0 0 false none 0 0 0)) := ⟨false, none, 0, 0, [], 0, false, none, 0, 0, [], 0, 1, rfl, by omega, by omega, Lim.nil _ _ _, Lim.nil _ _ _, rfl, rfl, below_put6 HS.out (by omega) _ _ _ _ _ _ _ _ _ _, HP0.out⟩
    clear HI_0 HI_1 HI_2 HI_3 HI_4 HI_5 HK_0 HK_1 HK_2 HK_3 HK_4 HK_5
    have u0 := HR.out.x0
    have u1 := HR.out.x1
    have u2 := HR.out.x2
    have u3 := HR.out.x3
    have u4 := HR.out.x4
    have u5 := HR.out.x5
    have uf := HR.out.fz
    clear HS HT H1 H2 H3 H4 HI HK HR h1 h2 h3 h4 q1 q2 HP0
    go_wp2
    exact bodyPost_ret (v := .tuple #[.agg #[.bool false, .slice none 0 0, .int .i64 0, .bool false, .slice none 0 0, .int .i64 0], .int .i64 1]) (by simp [results, Tryd.results13, go_sem, u0, u1, u2, u3, u4, u5]) rfl Hfin.out
  · skip
    obtain rfl : v2 = false := HNO.out
    clear HNO
    have K2 := Lib.hid (iright_l false d3 d4 g3 A3 n3 c3 xs3 e3 g4 A4 n4 c4 xs4 e4 w1 H3.out (by omega) H4.out (by omega) HT.out h3 h4 q2)
    go_wp2_with fail
    refine K2.out.mono ?_
    rintro e w2 ⟨rfl, hB⟩
    clear HI_0 HI_1 HI_2 HI_3 HI_4 HI_5 HK_0 HK_1 HK_2 HK_3 HK_4 HK_5
    replace HT : Hid (Tab w2) := HT.out.below hB
    replace H1 : Hid (Lim w2 A1 n1 c1 xs1) := H1.out.below hB
    replace H2 : Hid (Lim w2 A2 n2 c2 xs2) := H2.out.below hB
    replace H3 : Hid (Lim w2 A3 n3 c3 xs3) := H3.out.below hB
    replace H4 : Hid (Lim w2 A4 n4 c4 xs4) := H4.out.below hB
    replace HI : Hid (Ib w2 w.heap.size g1 A1 n1 c1 e1 g2 A2 n2 c2 e2) := HI.out.below hB
    replace HK : Hid (Ib w2 (w.heap.size + 1) g3 A3 n3 c3 e3 g4 A4 n4 c4 e4) := HK.out.below hB
    replace HR : Hid (Ib w2 (w.heap.size + 1 + 1) false none 0 0 0 false none 0 0 0) := HR.out.below hB
    replace HS := Lib.hid (HS.out.trans (hB.mono HS.out.size))
    clear hB K2
    have HI_0 := HI.out.x0
    have HI_1 := HI.out.x1
    have HI_2 := HI.out.x2
    have HI_3 := HI.out.x3
    have HI_4 := HI.out.x4
    have HI_5 := HI.out.x5
    have HK_0 := HK.out.x0
    have HK_1 := HK.out.x1
    have HK_2 := HK.out.x2
    have HK_3 := HK.out.x3
    have HK_4 := HK.out.x4
    have HK_5 := HK.out.x5
    have Hfin : Hid (VTold w P0 (.returned (.tuple #[.agg #[.bool false, .slice none 0 0, .int .i64 0, .bool false, .slice none 0 0, .int .i64 0], .int .i64 1])) (World.put6 w2 (w.heap.size + 1 + 1) false none 0 0 0 false none 0 0 0)) := ⟨false, none, 0, 0, [], 0, false, none, 0, 0, [], 0, 1, rfl, by omega, by omega, Lim.nil _ _ _, Lim.nil _ _ _, rfl, rfl, below_put6 HS.out (by omega) _ _ _ _ _ _ _ _ _ _, HP0.out⟩
    clear HI_0 HI_1 HI_2 HI_3 HI_4 HI_5 HK_0 HK_1 HK_2 HK_3 HK_4 HK_5
    have u0 := HR.out.x0
    have u1 := HR.out.x1
    have u2 := HR.out.x2
    have u3 := HR.out.x3
    have u4 := HR.out.x4
    have u5 := HR.out.x5
    have uf := HR.out.fz
    clear HS HT H1 H2 H3 H4 HI HK HR h1 h2 h3 h4 q1 q2 HP0
    go_wp2
    exact bodyPost_ret (v := .tuple #[.agg #[.bool false, .slice none 0 0, .int .i64 0, .bool false, .slice none 0 0, .int .i64 0], .int .i64 1]) (by simp [results, Tryd.results13, go_sem, u0, u1, u2, u3, u4, u5]) rfl Hfin.out

/-- An interval that came in, in its block; the result's block behind it. -/
def HoldW5 (w : World) (g1 : Bool) (A1 : Option Addr) (n1 c1 : Nat) (xs1 : List Nat) (e1 : Int) (g2 : Bool) (A2 : Option Addr) (n2 c2 : Nat) (xs2 : List Nat) (e2 : Int) (u : World) : Prop :=
  Ib u w.heap.size g1 A1 n1 c1 e1 g2 A2 n2 c2 e2 ∧ Bd u (w.heap.size + 1) 36 false none 0 0 0 ∧ Lim u A1 n1 c1 xs1 ∧ Lim u A2 n2 c2 xs2 ∧ Tab u ∧ Below w.heap.size w u
section
variable {w u u' : World} {g1 : Bool} {A1 : Option Addr} {n1 c1 : Nat} {xs1 : List Nat} {e1 : Int} {g2 : Bool} {A2 : Option Addr} {n2 c2 : Nat} {xs2 : List Nat} {e2 : Int}
theorem HoldW5.below (h : HoldW5 w g1 A1 n1 c1 xs1 e1 g2 A2 n2 c2 xs2 e2 u) (hb : Below u.heap.size u u') : HoldW5 w g1 A1 n1 c1 xs1 e1 g2 A2 n2 c2 xs2 e2 u' :=
  ⟨h.1.below hb, h.2.1.below hb, h.2.2.1.below hb, h.2.2.2.1.below hb, h.2.2.2.2.1.below hb, h.2.2.2.2.2.trans (hb.mono h.2.2.2.2.2.size)⟩
abbrev Six5 (u : World) (p : Nat) (g1 : Bool) (A1 : Option Addr) (n1 c1 : Nat) (e1 : Int) (g2 : Bool) (A2 : Option Addr) (n2 c2 : Nat) (e2 : Int) : Prop := u.cell? ⟨p, 0, none⟩ = some (.bool g1) ∧ u.cell? ⟨p, 1, none⟩ = some (.slice A1 n1 c1) ∧ u.cell? ⟨p, 2, none⟩ = some (.int .i64 e1) ∧ u.cell? ⟨p, 3, none⟩ = some (.bool g2) ∧ u.cell? ⟨p, 4, none⟩ = some (.slice A2 n2 c2) ∧ u.cell? ⟨p, 5, none⟩ = some (.int .i64 e2)
theorem Ib.six5 {p : Nat} (h : Ib u p g1 A1 n1 c1 e1 g2 A2 n2 c2 e2) : Six5 u p g1 A1 n1 c1 e1 g2 A2 n2 c2 e2 := ⟨h.x0, h.x1, h.x2, h.x3, h.x4, h.x5⟩
theorem HoldW5.six (h : HoldW5 w g1 A1 n1 c1 xs1 e1 g2 A2 n2 c2 xs2 e2 u) : Six5 u w.heap.size g1 A1 n1 c1 e1 g2 A2 n2 c2 e2 := h.1.six5
theorem HoldW5.kept (h : HoldW5 w g1 A1 n1 c1 xs1 e1 g2 A2 n2 c2 xs2 e2 u) (g : Bool) (A : Option Addr) (n c : Nat) (e : Int) : Six5 (World.put u (w.heap.size + 1) g A n c e) w.heap.size g1 A1 n1 c1 e1 g2 A2 n2 c2 e2 :=
  (h.1.other (by omega) g A n c e).six5
end

set_option maxHeartbeats 4000000 in
set_option maxRecDepth 20000 in
theorem ivwide_yes (s m d1 d2 : Dy) (g1 : Bool) (A1 : Option Addr) (n1 c1 : Nat) (xs1 : List Nat) (e1 : Int) (g2 : Bool) (A2 : Option Addr) (n2 c2 : Nat) (xs2 : List Nat) (e2 : Int) (w : World) (l1 : Lim w A1 n1 c1 xs1) (b1 : n1 ≤ 30000) (l2 : Lim w A2 n2 c2 xs2) (b2 : n2 ≤ 30000) (hT : Tab w) (h1 : Hid (mk g1 (val xs1) e1 = some d1)) (h2 : Hid (mk g2 (val xs2) e2 = some d2))
    (q1 : Hid (decide ((dw g1 (val xs1) e1) ≤ (dw g2 (val xs2) e2)) = true)) (o1 : Hid (mk (!g1) (val xs1) e1 = some m)) (o2 : Hid (addO (mk g2 (val xs2) e2) (mk m.neg m.V m.e) = some s)) :
    Calls Tryd.prog 15 #[.agg #[.bool g1, .slice A1 n1 c1, .int .i64 e1, .bool g2, .slice A2 n2 c2, .int .i64 e2]] w (Told w (some s) 95540) := by
  have C1 : Hid (∀ u, HoldW5 w g1 A1 n1 c1 xs1 e1 g2 A2 n2 c2 xs2 e2 u → Calls Tryd.prog 40 #[.agg #[.bool g1, .slice A1 n1 c1, .int .i64 e1]] u (Tells1 u m.neg m.V n1 m.e)) := fun u hu => minus_any m g1 A1 n1 c1 xs1 e1 u hu.2.2.1 (by omega) hu.2.2.2.2.1 o1
  have C2 : Hid (∀ u A m1 c zs, HoldW5 w g1 A1 n1 c1 xs1 e1 g2 A2 n2 c2 xs2 e2 u → Lim u A m1 c zs → m1 ≤ n1 → val zs = m.V → Calls Tryd.prog 28 #[.agg #[.bool g2, .slice A2 n2 c2, .int .i64 e2], .agg #[.bool m.neg, .slice A m1 c, .int .i64 m.e]] u (Told u (some s) (max n2 m1 + 65540))) := fun u A m1 c zs hu hl hm hv => by
    have h := dadd_any (some s) g2 A2 n2 c2 xs2 e2 m.neg A m1 c zs m.e u hu.2.2.2.1 hl (by omega) (by omega) hu.2.2.2.2.1 (by show _ = _; rw [hv]; exact o2.out)
    exact h
  clear o1 o2
  have HT := Lib.hid hT
  have HS := Lib.hid (Below.refl w.heap.size w)
  have H1 : Hid (Lim w A1 n1 c1 xs1) := l1
  have H2 : Hid (Lim w A2 n2 c2 xs2) := l2
  clear l1 l2 hT
  have ba := below1 w (.cells #[.bool g1, .slice A1 n1 c1, .int .i64 e1, .bool g2, .slice A2 n2 c2, .int .i64 e2] 38)
  replace HT : Hid (Tab (w.alloc (.cells #[.bool g1, .slice A1 n1 c1, .int .i64 e1, .bool g2, .slice A2 n2 c2, .int .i64 e2] 38))) := HT.out.below ba
  replace H1 : Hid (Lim (w.alloc (.cells #[.bool g1, .slice A1 n1 c1, .int .i64 e1, .bool g2, .slice A2 n2 c2, .int .i64 e2] 38)) A1 n1 c1 xs1) := H1.out.below ba
  replace H2 : Hid (Lim (w.alloc (.cells #[.bool g1, .slice A1 n1 c1, .int .i64 e1, .bool g2, .slice A2 n2 c2, .int .i64 e2] 38)) A2 n2 c2 xs2) := H2.out.below ba
  replace HS := Lib.hid (HS.out.trans (ba.mono HS.out.size))
  clear ba
  have HI : Hid (Ib (w.alloc (.cells #[.bool g1, .slice A1 n1 c1, .int .i64 e1, .bool g2, .slice A2 n2 c2, .int .i64 e2] 38)) w.heap.size g1 A1 n1 c1 e1 g2 A2 n2 c2 e2) := Ib.new w g1 A1 n1 c1 e1 g2 A2 n2 c2 e2
  have ba := below1 (w.alloc (.cells #[.bool g1, .slice A1 n1 c1, .int .i64 e1, .bool g2, .slice A2 n2 c2, .int .i64 e2] 38)) (.cells #[.bool false, .slice none 0 0, .int .i64 0] 36)
  replace HT : Hid (Tab ((w.alloc (.cells #[.bool g1, .slice A1 n1 c1, .int .i64 e1, .bool g2, .slice A2 n2 c2, .int .i64 e2] 38)).alloc (.cells #[.bool false, .slice none 0 0, .int .i64 0] 36))) := HT.out.below ba
  replace H1 : Hid (Lim ((w.alloc (.cells #[.bool g1, .slice A1 n1 c1, .int .i64 e1, .bool g2, .slice A2 n2 c2, .int .i64 e2] 38)).alloc (.cells #[.bool false, .slice none 0 0, .int .i64 0] 36)) A1 n1 c1 xs1) := H1.out.below ba
  replace H2 : Hid (Lim ((w.alloc (.cells #[.bool g1, .slice A1 n1 c1, .int .i64 e1, .bool g2, .slice A2 n2 c2, .int .i64 e2] 38)).alloc (.cells #[.bool false, .slice none 0 0, .int .i64 0] 36)) A2 n2 c2 xs2) := H2.out.below ba
  replace HI : Hid (Ib ((w.alloc (.cells #[.bool g1, .slice A1 n1 c1, .int .i64 e1, .bool g2, .slice A2 n2 c2, .int .i64 e2] 38)).alloc (.cells #[.bool false, .slice none 0 0, .int .i64 0] 36)) w.heap.size g1 A1 n1 c1 e1 g2 A2 n2 c2 e2) := HI.out.below ba
  replace HS := Lib.hid (HS.out.trans (ba.mono HS.out.size))
  clear ba
  have HR : Hid (Bd ((w.alloc (.cells #[.bool g1, .slice A1 n1 c1, .int .i64 e1, .bool g2, .slice A2 n2 c2, .int .i64 e2] 38)).alloc (.cells #[.bool false, .slice none 0 0, .int .i64 0] 36)) (w.heap.size + 1) 36 false none 0 0 0) := (by have h := Bd.new (w.alloc (.cells #[.bool g1, .slice A1 n1 c1, .int .i64 e1, .bool g2, .slice A2 n2 c2, .int .i64 e2] 38)) 36 false none 0 0 0; rw [World.size_alloc] at h; exact h)
  have HI_0 := HI.out.x0
  have HI_1 := HI.out.x1
  have HI_2 := HI.out.x2
  have HI_3 := HI.out.x3
  have HI_4 := HI.out.x4
  have HI_5 := HI.out.x5
  have K1 := Lib.hid (iright_l true d1 d2 g1 A1 n1 c1 xs1 e1 g2 A2 n2 c2 xs2 e2 ((w.alloc (.cells #[.bool g1, .slice A1 n1 c1, .int .i64 e1, .bool g2, .slice A2 n2 c2, .int .i64 e2] 38)).alloc (.cells #[.bool false, .slice none 0 0, .int .i64 0] 36)) H1.out (by omega) H2.out (by omega) HT.out h1 h2 q1)
  go_enter Tryd.func15, Tryd.ntmps15
  go_wp2_with fail
  refine K1.out.mono ?_
  rintro e w1 ⟨rfl, hB⟩
  clear HI_0 HI_1 HI_2 HI_3 HI_4 HI_5
  replace HT : Hid (Tab w1) := HT.out.below hB
  replace H1 : Hid (Lim w1 A1 n1 c1 xs1) := H1.out.below hB
  replace H2 : Hid (Lim w1 A2 n2 c2 xs2) := H2.out.below hB
  replace HI : Hid (Ib w1 w.heap.size g1 A1 n1 c1 e1 g2 A2 n2 c2 e2) := HI.out.below hB
  replace HR : Hid (Bd w1 (w.heap.size + 1) 36 false none 0 0 0) := HR.out.below hB
  replace HS := Lib.hid (HS.out.trans (hB.mono HS.out.size))
  clear hB K1
  have K0 : Hid (HoldW5 w g1 A1 n1 c1 xs1 e1 g2 A2 n2 c2 xs2 e2 w1) := ⟨HI.out, HR.out, H1.out, H2.out, HT.out, HS.out⟩
  clear HI HR H1 H2 HT HS h1 h2 q1
  replace K0 := Lib.hid (K0.out.below (below_drew _))
  go_wp2_with fail
  have y := K0.out.six
  go_region_held3 (fun u => u.cell? ⟨w.heap.size, 0, none⟩ = some (.bool g1) ∧ u.cell? ⟨w.heap.size, 1, none⟩ = some (.slice A1 n1 c1) ∧ u.cell? ⟨w.heap.size, 2, none⟩ = some (.int .i64 e1) ∧ u.cell? ⟨w.heap.size, 3, none⟩ = some (.bool g2) ∧ u.cell? ⟨w.heap.size, 4, none⟩ = some (.slice A2 n2 c2) ∧ u.cell? ⟨w.heap.size, 5, none⟩ = some (.int .i64 e2)) (first | (with_reducible exact K0.out.six) | (with_reducible exact K0.out.kept _ _ _ _ _))
    (first
      | (go_at_call 40; (with_reducible refine (C1.out _ K0.out).mono ?_); rintro e u1 ⟨A3, m3, c3, zs3, rfl, hm3, hl3, hb3, hv3, hB3⟩; replace K0 := Lib.hid (K0.out.below hB3); have H3 : Hid (Lim u1 A3 m3 c3 zs3 ∧ m3 ≤ n1 ∧ val zs3 = m.V) := ⟨hl3, hm3, hv3⟩; clear hl3 hB3 hb3 hv3)
      | (go_at_call 28; (with_reducible refine (C2.out _ _ _ _ _ K0.out H3.out.1 H3.out.2.1 H3.out.2.2).mono ?_); rintro e u2 ⟨g4, A4, m4, c4, zs4, E4, r4, rfl, hm4, hl4, hb4, ⟨rfl, rfl, hv4, rfl⟩, hB4⟩; replace K0 := Lib.hid (K0.out.below hB4); have H4 : Hid (Lim u2 A4 m4 c4 zs4 ∧ Bare zs4 ∧ val zs4 = s.V) := ⟨hl4, hb4, hv4⟩; clear hl4 hb4 hv4 hB4; have z0 := K0.out.2.1.c0; have z1 := K0.out.2.1.c1; have z2 := K0.out.2.1.c2; have zf := K0.out.2.1.fz))
  all_goals (
    have Hfin : Hid (Told w (some s) 95540 (.returned (.tuple #[.agg #[.bool s.neg, .slice A4 m4 c4, .int .i64 s.e], .int .i64 0])) (World.put u2 (w.heap.size + 1) s.neg A4 m4 c4 s.e)) := ⟨s.neg, A4, m4, c4, zs4, s.e, 0, rfl, by omega, K0.out.2.1.lim H4.out.1 _ _ _ _ _, H4.out.2.1, ⟨rfl, rfl, H4.out.2.2, rfl⟩, below_put K0.out.2.2.2.2.2 (Nat.le_succ _) _ _ _ _ _⟩
    have u0 := K0.out.2.1.put s.neg A4 m4 c4 s.e
    have v0 := u0.c0
    have v1 := u0.c1
    have v2 := u0.c2
    clear K0 C1 C2 H3 H4 u0
    go_wp2
    exact bodyPost_ret (v := .tuple #[.agg #[.bool s.neg, .slice A4 m4 c4, .int .i64 s.e], .int .i64 0]) (by simp [results, Tryd.results15, go_sem, v0, v1, v2]) rfl Hfin.out)
set_option maxHeartbeats 4000000 in
set_option maxRecDepth 20000 in
theorem ivwide_no (d1 d2 : Dy) (g1 : Bool) (A1 : Option Addr) (n1 c1 : Nat) (xs1 : List Nat) (e1 : Int) (g2 : Bool) (A2 : Option Addr) (n2 c2 : Nat) (xs2 : List Nat) (e2 : Int) (w : World) (l1 : Lim w A1 n1 c1 xs1) (b1 : n1 ≤ 30000) (l2 : Lim w A2 n2 c2 xs2) (b2 : n2 ≤ 30000) (hT : Tab w) (h1 : Hid (mk g1 (val xs1) e1 = some d1)) (h2 : Hid (mk g2 (val xs2) e2 = some d2))
    (q1 : Hid (decide ((dw g1 (val xs1) e1) ≤ (dw g2 (val xs2) e2)) = false)) :
    Calls Tryd.prog 15 #[.agg #[.bool g1, .slice A1 n1 c1, .int .i64 e1, .bool g2, .slice A2 n2 c2, .int .i64 e2]] w fun e w' => e = .returned (.tuple #[.agg #[.bool false, .slice none 0 0, .int .i64 0], .int .i64 1]) ∧ Below w.heap.size w w' := by
  have HT := Lib.hid hT
  have HS := Lib.hid (Below.refl w.heap.size w)
  have H1 : Hid (Lim w A1 n1 c1 xs1) := l1
  have H2 : Hid (Lim w A2 n2 c2 xs2) := l2
  clear l1 l2 hT
  have ba := below1 w (.cells #[.bool g1, .slice A1 n1 c1, .int .i64 e1, .bool g2, .slice A2 n2 c2, .int .i64 e2] 38)
  replace HT : Hid (Tab (w.alloc (.cells #[.bool g1, .slice A1 n1 c1, .int .i64 e1, .bool g2, .slice A2 n2 c2, .int .i64 e2] 38))) := HT.out.below ba
  replace H1 : Hid (Lim (w.alloc (.cells #[.bool g1, .slice A1 n1 c1, .int .i64 e1, .bool g2, .slice A2 n2 c2, .int .i64 e2] 38)) A1 n1 c1 xs1) := H1.out.below ba
  replace H2 : Hid (Lim (w.alloc (.cells #[.bool g1, .slice A1 n1 c1, .int .i64 e1, .bool g2, .slice A2 n2 c2, .int .i64 e2] 38)) A2 n2 c2 xs2) := H2.out.below ba
  replace HS := Lib.hid (HS.out.trans (ba.mono HS.out.size))
  clear ba
  have HI : Hid (Ib (w.alloc (.cells #[.bool g1, .slice A1 n1 c1, .int .i64 e1, .bool g2, .slice A2 n2 c2, .int .i64 e2] 38)) w.heap.size g1 A1 n1 c1 e1 g2 A2 n2 c2 e2) := Ib.new w g1 A1 n1 c1 e1 g2 A2 n2 c2 e2
  have ba := below1 (w.alloc (.cells #[.bool g1, .slice A1 n1 c1, .int .i64 e1, .bool g2, .slice A2 n2 c2, .int .i64 e2] 38)) (.cells #[.bool false, .slice none 0 0, .int .i64 0] 36)
  replace HT : Hid (Tab ((w.alloc (.cells #[.bool g1, .slice A1 n1 c1, .int .i64 e1, .bool g2, .slice A2 n2 c2, .int .i64 e2] 38)).alloc (.cells #[.bool false, .slice none 0 0, .int .i64 0] 36))) := HT.out.below ba
  replace H1 : Hid (Lim ((w.alloc (.cells #[.bool g1, .slice A1 n1 c1, .int .i64 e1, .bool g2, .slice A2 n2 c2, .int .i64 e2] 38)).alloc (.cells #[.bool false, .slice none 0 0, .int .i64 0] 36)) A1 n1 c1 xs1) := H1.out.below ba
  replace H2 : Hid (Lim ((w.alloc (.cells #[.bool g1, .slice A1 n1 c1, .int .i64 e1, .bool g2, .slice A2 n2 c2, .int .i64 e2] 38)).alloc (.cells #[.bool false, .slice none 0 0, .int .i64 0] 36)) A2 n2 c2 xs2) := H2.out.below ba
  replace HI : Hid (Ib ((w.alloc (.cells #[.bool g1, .slice A1 n1 c1, .int .i64 e1, .bool g2, .slice A2 n2 c2, .int .i64 e2] 38)).alloc (.cells #[.bool false, .slice none 0 0, .int .i64 0] 36)) w.heap.size g1 A1 n1 c1 e1 g2 A2 n2 c2 e2) := HI.out.below ba
  replace HS := Lib.hid (HS.out.trans (ba.mono HS.out.size))
  clear ba
  have HR : Hid (Bd ((w.alloc (.cells #[.bool g1, .slice A1 n1 c1, .int .i64 e1, .bool g2, .slice A2 n2 c2, .int .i64 e2] 38)).alloc (.cells #[.bool false, .slice none 0 0, .int .i64 0] 36)) (w.heap.size + 1) 36 false none 0 0 0) := (by have h := Bd.new (w.alloc (.cells #[.bool g1, .slice A1 n1 c1, .int .i64 e1, .bool g2, .slice A2 n2 c2, .int .i64 e2] 38)) 36 false none 0 0 0; rw [World.size_alloc] at h; exact h)
  have HI_0 := HI.out.x0
  have HI_1 := HI.out.x1
  have HI_2 := HI.out.x2
  have HI_3 := HI.out.x3
  have HI_4 := HI.out.x4
  have HI_5 := HI.out.x5
  have K1 := Lib.hid (iright_l false d1 d2 g1 A1 n1 c1 xs1 e1 g2 A2 n2 c2 xs2 e2 ((w.alloc (.cells #[.bool g1, .slice A1 n1 c1, .int .i64 e1, .bool g2, .slice A2 n2 c2, .int .i64 e2] 38)).alloc (.cells #[.bool false, .slice none 0 0, .int .i64 0] 36)) H1.out (by omega) H2.out (by omega) HT.out h1 h2 q1)
  go_enter Tryd.func15, Tryd.ntmps15
  go_wp2_with fail
  refine K1.out.mono ?_
  rintro e w1 ⟨rfl, hB⟩
  clear HI_0 HI_1 HI_2 HI_3 HI_4 HI_5
  replace HT : Hid (Tab w1) := HT.out.below hB
  replace H1 : Hid (Lim w1 A1 n1 c1 xs1) := H1.out.below hB
  replace H2 : Hid (Lim w1 A2 n2 c2 xs2) := H2.out.below hB
  replace HI : Hid (Ib w1 w.heap.size g1 A1 n1 c1 e1 g2 A2 n2 c2 e2) := HI.out.below hB
  replace HR : Hid (Bd w1 (w.heap.size + 1) 36 false none 0 0 0) := HR.out.below hB
  replace HS := Lib.hid (HS.out.trans (hB.mono HS.out.size))
  clear hB K1
  have Hfin := Lib.hid (below_put HS.out (show w.heap.size ≤ w.heap.size + 1 by omega) false none 0 0 0)
  have u0 := HR.out.c0
  have u1 := HR.out.c1
  have u2 := HR.out.c2
  have uf := HR.out.fz
  clear HS HT H1 H2 HI HR h1 h2 q1
  go_wp2
  exact bodyPost_ret (v := .tuple #[.agg #[.bool false, .slice none 0 0, .int .i64 0], .int .i64 1]) (by simp [results, Tryd.results15, go_sem, u0, u1, u2]) rfl ⟨rfl, Hfin.out⟩
end Go.Proofs.YtafgooiakmmfkaaDoor
