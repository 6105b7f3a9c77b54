/- The walk of iv.Short (written by law_iv7.py). -/
import Derived.Test.YtnkbdjbcfkflpaaDoorIvShortN
namespace Go.Proofs.YtnkbdjbcfkflpaaDoor
open Go.RowKit

set_option maxHeartbeats 4000000 in
set_option maxRecDepth 20000 in
theorem ivshort_yes (b : Nat) (X Y d1 d2 : Dy) (g1 : Bool) (A1 : Option Addr) (n1 c1 : Nat) (xs1 : List Nat) (e1 : Int) (g2 : Bool) (A2 : Option Addr) (n2 c2 : Nat) (xs2 : List Nat) (e2 : Int) (w : World) (l1 : Lim w A1 n1 c1 xs1) (b1 : n1 ≤ 30000) (l2 : Lim w A2 n2 c2 xs2) (b2 : n2 ≤ 30000) (hT : Tab w) (h1 : Hid (mk g1 (val xs1) e1 = some d1)) (h2 : Hid (mk g2 (val xs2) e2 = some d2)) (q1 : Hid (decide ((dw g1 (val xs1) e1) ≤ (dw g2 (val xs2) e2)) = true)) (hb1 : 1 ≤ b) (hb2 : b ≤ 4096) (C1 : Hid (∀ u, Lim u A1 n1 c1 xs1 → Tab u → Calls Tryd.prog 50 #[.agg #[.bool g1, .slice A1 n1 c1, .int .i64 e1], .int .i64 (b : Int), .int .i64 3] u (Told u (some X) 30400))) (C2 : Hid (∀ u, Lim u A2 n2 c2 xs2 → Tab u → Calls Tryd.prog 50 #[.agg #[.bool g2, .slice A2 n2 c2, .int .i64 e2], .int .i64 (b : Int), .int .i64 2] u (Told u (some Y) 30400))) :
    Calls Tryd.prog 24 #[.agg #[.bool g1, .slice A1 n1 c1, .int .i64 e1, .bool g2, .slice A2 n2 c2, .int .i64 e2], .int .i64 (b : Int)] w (VTold w (fun S T r _ _ => r = 0 ∧ S = X ∧ T = Y)) := by
  obtain ⟨P0, hP0⟩ : ∃ P0 : Dy → Dy → Int → Nat → Nat → Prop, P0 = (fun S T r _ _ => r = 0 ∧ S = X ∧ T = Y) := ⟨_, rfl⟩
  rw [← hP0]
  have HP0 : Hid (∀ m1 m2, P0 X Y 0 m1 m2) := fun _ _ => by rw [hP0]; exact ⟨rfl, rfl, rfl⟩
  clear hP0
  have HT := Lib.hid hT
  have HS := Lib.hid (Below.refl w.heap.size w)
  have zb1 : decide ((b : Int) < 1) = false := decide_eq_false (by omega)
  have zb2 : decide (b < 1) = false := decide_eq_false (by omega)
  have zb3 : decide ((4096 : Int) < (b : Int)) = false := decide_eq_false (by omega)
  have zb4 : decide (4096 < b) = false := decide_eq_false (by omega)
  have H1 : Hid (Lim w A1 n1 c1 xs1) := l1
  have H2 : Hid (Lim w A2 n2 c2 xs2) := l2
  clear l1 l2 hT
  have ba := below1 w (.cells #[.bool g1, .slice A1 n1 c1, .int .i64 e1, .bool g2, .slice A2 n2 c2, .int .i64 e2] 38)
  replace HT : Hid (Tab (w.alloc (.cells #[.bool g1, .slice A1 n1 c1, .int .i64 e1, .bool g2, .slice A2 n2 c2, .int .i64 e2] 38))) := HT.out.below ba
  replace H1 : Hid (Lim (w.alloc (.cells #[.bool g1, .slice A1 n1 c1, .int .i64 e1, .bool g2, .slice A2 n2 c2, .int .i64 e2] 38)) A1 n1 c1 xs1) := H1.out.below ba
  replace H2 : Hid (Lim (w.alloc (.cells #[.bool g1, .slice A1 n1 c1, .int .i64 e1, .bool g2, .slice A2 n2 c2, .int .i64 e2] 38)) A2 n2 c2 xs2) := H2.out.below ba
  replace HS := Lib.hid (HS.out.trans (ba.mono HS.out.size))
  clear ba
  have HI : Hid (Ib (w.alloc (.cells #[.bool g1, .slice A1 n1 c1, .int .i64 e1, .bool g2, .slice A2 n2 c2, .int .i64 e2] 38)) w.heap.size g1 A1 n1 c1 e1 g2 A2 n2 c2 e2) := Ib.new w g1 A1 n1 c1 e1 g2 A2 n2 c2 e2
  have ba := below1 (w.alloc (.cells #[.bool g1, .slice A1 n1 c1, .int .i64 e1, .bool g2, .slice A2 n2 c2, .int .i64 e2] 38)) (.cells #[.bool false, .slice none 0 0, .int .i64 0, .bool false, .slice none 0 0, .int .i64 0] 38)
  replace HT : Hid (Tab ((w.alloc (.cells #[.bool g1, .slice A1 n1 c1, .int .i64 e1, .bool g2, .slice A2 n2 c2, .int .i64 e2] 38)).alloc (.cells #[.bool false, .slice none 0 0, .int .i64 0, .bool false, .slice none 0 0, .int .i64 0] 38))) := HT.out.below ba
  replace H1 : Hid (Lim ((w.alloc (.cells #[.bool g1, .slice A1 n1 c1, .int .i64 e1, .bool g2, .slice A2 n2 c2, .int .i64 e2] 38)).alloc (.cells #[.bool false, .slice none 0 0, .int .i64 0, .bool false, .slice none 0 0, .int .i64 0] 38)) A1 n1 c1 xs1) := H1.out.below ba
  replace H2 : Hid (Lim ((w.alloc (.cells #[.bool g1, .slice A1 n1 c1, .int .i64 e1, .bool g2, .slice A2 n2 c2, .int .i64 e2] 38)).alloc (.cells #[.bool false, .slice none 0 0, .int .i64 0, .bool false, .slice none 0 0, .int .i64 0] 38)) A2 n2 c2 xs2) := H2.out.below ba
  replace HI : Hid (Ib ((w.alloc (.cells #[.bool g1, .slice A1 n1 c1, .int .i64 e1, .bool g2, .slice A2 n2 c2, .int .i64 e2] 38)).alloc (.cells #[.bool false, .slice none 0 0, .int .i64 0, .bool false, .slice none 0 0, .int .i64 0] 38)) w.heap.size g1 A1 n1 c1 e1 g2 A2 n2 c2 e2) := HI.out.below ba
  replace HS := Lib.hid (HS.out.trans (ba.mono HS.out.size))
  clear ba
  have HR : Hid (Ib ((w.alloc (.cells #[.bool g1, .slice A1 n1 c1, .int .i64 e1, .bool g2, .slice A2 n2 c2, .int .i64 e2] 38)).alloc (.cells #[.bool false, .slice none 0 0, .int .i64 0, .bool false, .slice none 0 0, .int .i64 0] 38)) (w.heap.size + 1) false none 0 0 0 false none 0 0 0) := (by have h := Ib.new (w.alloc (.cells #[.bool g1, .slice A1 n1 c1, .int .i64 e1, .bool g2, .slice A2 n2 c2, .int .i64 e2] 38)) false none 0 0 0 false none 0 0 0; rw [World.size_alloc] at h; exact h)
  have HI_0 := HI.out.x0
  have HI_1 := HI.out.x1
  have HI_2 := HI.out.x2
  have HI_3 := HI.out.x3
  have HI_4 := HI.out.x4
  have HI_5 := HI.out.x5
  have K := Lib.hid (iright_l true d1 d2 g1 A1 n1 c1 xs1 e1 g2 A2 n2 c2 xs2 e2 ((w.alloc (.cells #[.bool g1, .slice A1 n1 c1, .int .i64 e1, .bool g2, .slice A2 n2 c2, .int .i64 e2] 38)).alloc (.cells #[.bool false, .slice none 0 0, .int .i64 0, .bool false, .slice none 0 0, .int .i64 0] 38)) H1.out (by omega) H2.out (by omega) HT.out h1 h2 q1)
  go_enter Tryd.func24, Tryd.ntmps24
  go_wp2_with fail
  refine K.out.mono ?_
  rintro e w1 ⟨rfl, hB⟩
  clear HI_0 HI_1 HI_2 HI_3 HI_4 HI_5
  replace HT : Hid (Tab w1) := HT.out.below hB
  replace H1 : Hid (Lim w1 A1 n1 c1 xs1) := H1.out.below hB
  replace H2 : Hid (Lim w1 A2 n2 c2 xs2) := H2.out.below hB
  replace HI : Hid (Ib w1 w.heap.size g1 A1 n1 c1 e1 g2 A2 n2 c2 e2) := HI.out.below hB
  replace HR : Hid (Ib w1 (w.heap.size + 1) false none 0 0 0 false none 0 0 0) := HR.out.below hB
  replace HS := Lib.hid (HS.out.trans (hB.mono HS.out.size))
  clear hB K
  have HI_0 := HI.out.x0
  have HI_1 := HI.out.x1
  have HI_2 := HI.out.x2
  have HI_3 := HI.out.x3
  have HI_4 := HI.out.x4
  have HI_5 := HI.out.x5
  have K := Lib.hid (C1.out w1 H1.out HT.out)
  go_wp2_with fail
  refine K.out.mono ?_
  rintro e w2 ⟨gs, As, ms, cs, ss, Es, rs, rfl, hms, hls, hbs, ⟨rfl, rfl, hzs, rfl⟩, hB⟩
  clear HI_0 HI_1 HI_2 HI_3 HI_4 HI_5
  replace HT : Hid (Tab w2) := HT.out.below hB
  replace H1 : Hid (Lim w2 A1 n1 c1 xs1) := H1.out.below hB
  replace H2 : Hid (Lim w2 A2 n2 c2 xs2) := H2.out.below hB
  replace HI : Hid (Ib w2 w.heap.size g1 A1 n1 c1 e1 g2 A2 n2 c2 e2) := HI.out.below hB
  replace HR : Hid (Ib w2 (w.heap.size + 1) false none 0 0 0 false none 0 0 0) := HR.out.below hB
  replace HS := Lib.hid (HS.out.trans (hB.mono HS.out.size))
  have HLs : Hid (Lim w2 As ms cs ss) := hls
  have HVs : Hid (Bare ss ∧ val ss = X.V) := ⟨hbs, hzs⟩
  clear hls hbs hzs hB K
  have ba := below1 w2 (.cells #[.bool X.neg, .slice As ms cs, .int .i64 X.e] 36)
  replace HT : Hid (Tab (w2.alloc (.cells #[.bool X.neg, .slice As ms cs, .int .i64 X.e] 36))) := HT.out.below ba
  replace H1 : Hid (Lim (w2.alloc (.cells #[.bool X.neg, .slice As ms cs, .int .i64 X.e] 36)) A1 n1 c1 xs1) := H1.out.below ba
  replace H2 : Hid (Lim (w2.alloc (.cells #[.bool X.neg, .slice As ms cs, .int .i64 X.e] 36)) A2 n2 c2 xs2) := H2.out.below ba
  replace HI : Hid (Ib (w2.alloc (.cells #[.bool X.neg, .slice As ms cs, .int .i64 X.e] 36)) w.heap.size g1 A1 n1 c1 e1 g2 A2 n2 c2 e2) := HI.out.below ba
  replace HR : Hid (Ib (w2.alloc (.cells #[.bool X.neg, .slice As ms cs, .int .i64 X.e] 36)) (w.heap.size + 1) false none 0 0 0 false none 0 0 0) := HR.out.below ba
  replace HLs : Hid (Lim (w2.alloc (.cells #[.bool X.neg, .slice As ms cs, .int .i64 X.e] 36)) As ms cs ss) := HLs.out.below ba
  replace HS := Lib.hid (HS.out.trans (ba.mono HS.out.size))
  clear ba
  have HNs : Hid (Bd (w2.alloc (.cells #[.bool X.neg, .slice As ms cs, .int .i64 X.e] 36)) w2.heap.size 36 X.neg As ms cs X.e) := Bd.new w2 36 X.neg As ms cs X.e
  have HI_0 := HI.out.x0
  have HI_1 := HI.out.x1
  have HI_2 := HI.out.x2
  have HI_3 := HI.out.x3
  have HI_4 := HI.out.x4
  have HI_5 := HI.out.x5
  have K := Lib.hid (C2.out (w2.alloc (.cells #[.bool X.neg, .slice As ms cs, .int .i64 X.e] 36)) H2.out HT.out)
  go_wp2_with fail
  refine K.out.mono ?_
  rintro e w3 ⟨gt, At, mt, ct, st, Et, rt, rfl, hmt, hlt, hbt, ⟨rfl, rfl, hzt, rfl⟩, hB⟩
  clear HI_0 HI_1 HI_2 HI_3 HI_4 HI_5
  replace HT : Hid (Tab w3) := HT.out.below hB
  replace H1 : Hid (Lim w3 A1 n1 c1 xs1) := H1.out.below hB
  replace H2 : Hid (Lim w3 A2 n2 c2 xs2) := H2.out.below hB
  replace HI : Hid (Ib w3 w.heap.size g1 A1 n1 c1 e1 g2 A2 n2 c2 e2) := HI.out.below hB
  replace HR : Hid (Ib w3 (w.heap.size + 1) false none 0 0 0 false none 0 0 0) := HR.out.below hB
  replace HLs : Hid (Lim w3 As ms cs ss) := HLs.out.below hB
  replace HNs : Hid (Bd w3 w2.heap.size 36 X.neg As ms cs X.e) := HNs.out.below hB
  replace HS := Lib.hid (HS.out.trans (hB.mono HS.out.size))
  have HLt : Hid (Lim w3 At mt ct st) := hlt
  have HVt : Hid (Bare st ∧ val st = Y.V) := ⟨hbt, hzt⟩
  clear hlt hbt hzt hB K
  have ba := below1 w3 (.cells #[.bool Y.neg, .slice At mt ct, .int .i64 Y.e] 36)
  replace HT : Hid (Tab (w3.alloc (.cells #[.bool Y.neg, .slice At mt ct, .int .i64 Y.e] 36))) := HT.out.below ba
  replace H1 : Hid (Lim (w3.alloc (.cells #[.bool Y.neg, .slice At mt ct, .int .i64 Y.e] 36)) A1 n1 c1 xs1) := H1.out.below ba
  replace H2 : Hid (Lim (w3.alloc (.cells #[.bool Y.neg, .slice At mt ct, .int .i64 Y.e] 36)) A2 n2 c2 xs2) := H2.out.below ba
  replace HI : Hid (Ib (w3.alloc (.cells #[.bool Y.neg, .slice At mt ct, .int .i64 Y.e] 36)) w.heap.size g1 A1 n1 c1 e1 g2 A2 n2 c2 e2) := HI.out.below ba
  replace HR : Hid (Ib (w3.alloc (.cells #[.bool Y.neg, .slice At mt ct, .int .i64 Y.e] 36)) (w.heap.size + 1) false none 0 0 0 false none 0 0 0) := HR.out.below ba
  replace HLs : Hid (Lim (w3.alloc (.cells #[.bool Y.neg, .slice At mt ct, .int .i64 Y.e] 36)) As ms cs ss) := HLs.out.below ba
  replace HNs : Hid (Bd (w3.alloc (.cells #[.bool Y.neg, .slice At mt ct, .int .i64 Y.e] 36)) w2.heap.size 36 X.neg As ms cs X.e) := HNs.out.below ba
  replace HLt : Hid (Lim (w3.alloc (.cells #[.bool Y.neg, .slice At mt ct, .int .i64 Y.e] 36)) At mt ct st) := HLt.out.below ba
  replace HS := Lib.hid (HS.out.trans (ba.mono HS.out.size))
  clear ba
  have HNt : Hid (Bd (w3.alloc (.cells #[.bool Y.neg, .slice At mt ct, .int .i64 Y.e] 36)) w3.heap.size 36 Y.neg At mt ct Y.e) := Bd.new w3 36 Y.neg At mt ct Y.e
  have Hfin : Hid (VTold w P0 (.returned (.tuple #[.agg #[.bool X.neg, .slice As ms cs, .int .i64 X.e, .bool Y.neg, .slice At mt ct, .int .i64 Y.e], .int .i64 0])) (World.put6 (w3.alloc (.cells #[.bool Y.neg, .slice At mt ct, .int .i64 Y.e] 36)) (w.heap.size + 1) X.neg As ms cs X.e Y.neg At mt ct Y.e)) := ⟨X.neg, As, ms, cs, ss, X.e, Y.neg, At, mt, ct, st, Y.e, 0, rfl, by omega, by omega, HR.out.lim HLs.out _ _ _ _ _ _ _ _ _ _, HR.out.lim HLt.out _ _ _ _ _ _ _ _ _ _, HVs.out.1, HVt.out.1, below_put6 HS.out (by omega) _ _ _ _ _ _ _ _ _ _, by rw [HVs.out.2, HVt.out.2]; exact HP0.out _ _⟩
  have u0 := HR.out.x0
  have u1 := HR.out.x1
  have u2 := HR.out.x2
  have u3 := HR.out.x3
  have u4 := HR.out.x4
  have u5 := HR.out.x5
  have uf := HR.out.fz
  have y0 := HNs.out.c0
  have z0 := HNt.out.c0
  have y1 := HNs.out.c1
  have z1 := HNt.out.c1
  have y2 := HNs.out.c2
  have z2 := HNt.out.c2
  clear HS HT H1 H2 HI HR HLs HNs HLt HNt h1 h2 q1 C1 C2 HVs HVt HP0
  go_wp2
  exact bodyPost_ret (v := .tuple #[.agg #[.bool X.neg, .slice As ms cs, .int .i64 X.e, .bool Y.neg, .slice At mt ct, .int .i64 Y.e], .int .i64 0]) (by simp [results, Tryd.results24, go_sem, u0, u1, u2, u3, u4, u5]) rfl Hfin.out
set_option maxHeartbeats 4000000 in
set_option maxRecDepth 20000 in
theorem ivshort_no (bi : Int) (v1 : Bool) (d1 d2 : Dy) (g1 : Bool) (A1 : Option Addr) (n1 c1 : Nat) (xs1 : List Nat) (e1 : Int) (g2 : Bool) (A2 : Option Addr) (n2 c2 : Nat) (xs2 : List Nat) (e2 : Int) (w : World) (l1 : Lim w A1 n1 c1 xs1) (b1 : n1 ≤ 30000) (l2 : Lim w A2 n2 c2 xs2) (b2 : n2 ≤ 30000) (hT : Tab w) (h1 : Hid (mk g1 (val xs1) e1 = some d1)) (h2 : Hid (mk g2 (val xs2) e2 = some d2)) (q1 : Hid (decide ((dw g1 (val xs1) e1) ≤ (dw g2 (val xs2) e2)) = v1)) (hno : v1 = false ∨ bi < 1 ∨ 4096 < bi) :
    Calls Tryd.prog 24 #[.agg #[.bool g1, .slice A1 n1 c1, .int .i64 e1, .bool g2, .slice A2 n2 c2, .int .i64 e2], .int .i64 bi] w (VTold w (fun _ _ r m1 m2 => r = 1 ∧ m1 = 0 ∧ m2 = 0)) := by
  obtain ⟨P0, hP0⟩ : ∃ P0 : Dy → Dy → Int → Nat → Nat → Prop, P0 = (fun _ _ r m1 m2 => r = 1 ∧ m1 = 0 ∧ m2 = 0) := ⟨_, rfl⟩
  rw [← hP0]
  have HP0 : Hid (P0 ⟨false, 0, 0⟩ ⟨false, 0, 0⟩ 1 0 0) := by rw [hP0]; exact ⟨rfl, rfl, rfl⟩
  clear hP0
  have HT := Lib.hid hT
  have HS := Lib.hid (Below.refl w.heap.size w)
  have HNO := Lib.hid hno
  clear hno
  have H1 : Hid (Lim w A1 n1 c1 xs1) := l1
  have H2 : Hid (Lim w A2 n2 c2 xs2) := l2
  clear l1 l2 hT
  have ba := below1 w (.cells #[.bool g1, .slice A1 n1 c1, .int .i64 e1, .bool g2, .slice A2 n2 c2, .int .i64 e2] 38)
  replace HT : Hid (Tab (w.alloc (.cells #[.bool g1, .slice A1 n1 c1, .int .i64 e1, .bool g2, .slice A2 n2 c2, .int .i64 e2] 38))) := HT.out.below ba
  replace H1 : Hid (Lim (w.alloc (.cells #[.bool g1, .slice A1 n1 c1, .int .i64 e1, .bool g2, .slice A2 n2 c2, .int .i64 e2] 38)) A1 n1 c1 xs1) := H1.out.below ba
  replace H2 : Hid (Lim (w.alloc (.cells #[.bool g1, .slice A1 n1 c1, .int .i64 e1, .bool g2, .slice A2 n2 c2, .int .i64 e2] 38)) A2 n2 c2 xs2) := H2.out.below ba
  replace HS := Lib.hid (HS.out.trans (ba.mono HS.out.size))
  clear ba
  have HI : Hid (Ib (w.alloc (.cells #[.bool g1, .slice A1 n1 c1, .int .i64 e1, .bool g2, .slice A2 n2 c2, .int .i64 e2] 38)) w.heap.size g1 A1 n1 c1 e1 g2 A2 n2 c2 e2) := Ib.new w g1 A1 n1 c1 e1 g2 A2 n2 c2 e2
  have ba := below1 (w.alloc (.cells #[.bool g1, .slice A1 n1 c1, .int .i64 e1, .bool g2, .slice A2 n2 c2, .int .i64 e2] 38)) (.cells #[.bool false, .slice none 0 0, .int .i64 0, .bool false, .slice none 0 0, .int .i64 0] 38)
  replace HT : Hid (Tab ((w.alloc (.cells #[.bool g1, .slice A1 n1 c1, .int .i64 e1, .bool g2, .slice A2 n2 c2, .int .i64 e2] 38)).alloc (.cells #[.bool false, .slice none 0 0, .int .i64 0, .bool false, .slice none 0 0, .int .i64 0] 38))) := HT.out.below ba
  replace H1 : Hid (Lim ((w.alloc (.cells #[.bool g1, .slice A1 n1 c1, .int .i64 e1, .bool g2, .slice A2 n2 c2, .int .i64 e2] 38)).alloc (.cells #[.bool false, .slice none 0 0, .int .i64 0, .bool false, .slice none 0 0, .int .i64 0] 38)) A1 n1 c1 xs1) := H1.out.below ba
  replace H2 : Hid (Lim ((w.alloc (.cells #[.bool g1, .slice A1 n1 c1, .int .i64 e1, .bool g2, .slice A2 n2 c2, .int .i64 e2] 38)).alloc (.cells #[.bool false, .slice none 0 0, .int .i64 0, .bool false, .slice none 0 0, .int .i64 0] 38)) A2 n2 c2 xs2) := H2.out.below ba
  replace HI : Hid (Ib ((w.alloc (.cells #[.bool g1, .slice A1 n1 c1, .int .i64 e1, .bool g2, .slice A2 n2 c2, .int .i64 e2] 38)).alloc (.cells #[.bool false, .slice none 0 0, .int .i64 0, .bool false, .slice none 0 0, .int .i64 0] 38)) w.heap.size g1 A1 n1 c1 e1 g2 A2 n2 c2 e2) := HI.out.below ba
  replace HS := Lib.hid (HS.out.trans (ba.mono HS.out.size))
  clear ba
  have HR : Hid (Ib ((w.alloc (.cells #[.bool g1, .slice A1 n1 c1, .int .i64 e1, .bool g2, .slice A2 n2 c2, .int .i64 e2] 38)).alloc (.cells #[.bool false, .slice none 0 0, .int .i64 0, .bool false, .slice none 0 0, .int .i64 0] 38)) (w.heap.size + 1) false none 0 0 0 false none 0 0 0) := (by have h := Ib.new (w.alloc (.cells #[.bool g1, .slice A1 n1 c1, .int .i64 e1, .bool g2, .slice A2 n2 c2, .int .i64 e2] 38)) false none 0 0 0 false none 0 0 0; rw [World.size_alloc] at h; exact h)
  have HI_0 := HI.out.x0
  have HI_1 := HI.out.x1
  have HI_2 := HI.out.x2
  have HI_3 := HI.out.x3
  have HI_4 := HI.out.x4
  have HI_5 := HI.out.x5
  have K := Lib.hid (iright_l v1 d1 d2 g1 A1 n1 c1 xs1 e1 g2 A2 n2 c2 xs2 e2 ((w.alloc (.cells #[.bool g1, .slice A1 n1 c1, .int .i64 e1, .bool g2, .slice A2 n2 c2, .int .i64 e2] 38)).alloc (.cells #[.bool false, .slice none 0 0, .int .i64 0, .bool false, .slice none 0 0, .int .i64 0] 38)) H1.out (by omega) H2.out (by omega) HT.out h1 h2 q1)
  go_enter Tryd.func24, Tryd.ntmps24
  go_wp2_with fail
  refine K.out.mono ?_
  rintro e w1 ⟨rfl, hB⟩
  clear HI_0 HI_1 HI_2 HI_3 HI_4 HI_5
  replace HT : Hid (Tab w1) := HT.out.below hB
  replace H1 : Hid (Lim w1 A1 n1 c1 xs1) := H1.out.below hB
  replace H2 : Hid (Lim w1 A2 n2 c2 xs2) := H2.out.below hB
  replace HI : Hid (Ib w1 w.heap.size g1 A1 n1 c1 e1 g2 A2 n2 c2 e2) := HI.out.below hB
  replace HR : Hid (Ib w1 (w.heap.size + 1) false none 0 0 0 false none 0 0 0) := HR.out.below hB
  replace HS := Lib.hid (HS.out.trans (hB.mono HS.out.size))
  clear hB K
  cases v1
  · clear HNO
    have Hfin : Hid (VTold w P0 (.returned (.tuple #[.agg #[.bool false, .slice none 0 0, .int .i64 0, .bool false, .slice none 0 0, .int .i64 0], .int .i64 1])) (World.put6 w1 (w.heap.size + 1) false none 0 0 0 false none 0 0 0)) := ⟨false, none, 0, 0, [], 0, false, none, 0, 0, [], 0, 1, rfl, by omega, by omega, Lim.nil _ _ _, Lim.nil _ _ _, rfl, rfl, below_put6 HS.out (by omega) _ _ _ _ _ _ _ _ _ _, HP0.out⟩
    have u0 := HR.out.x0
    have u1 := HR.out.x1
    have u2 := HR.out.x2
    have u3 := HR.out.x3
    have u4 := HR.out.x4
    have u5 := HR.out.x5
    have uf := HR.out.fz
    clear HS HT H1 H2 HI HR h1 h2 q1 HP0
    go_wp2
    exact bodyPost_ret (v := .tuple #[.agg #[.bool false, .slice none 0 0, .int .i64 0, .bool false, .slice none 0 0, .int .i64 0], .int .i64 1]) (by simp [results, Tryd.results24, go_sem, u0, u1, u2, u3, u4, u5]) rfl Hfin.out
  · by_cases zc : bi < 1
    · have zd : decide (bi < 1) = true := decide_eq_true zc
      clear HNO zc
      have Hfin : Hid (VTold w P0 (.returned (.tuple #[.agg #[.bool false, .slice none 0 0, .int .i64 0, .bool false, .slice none 0 0, .int .i64 0], .int .i64 1])) (World.put6 w1 (w.heap.size + 1) false none 0 0 0 false none 0 0 0)) := ⟨false, none, 0, 0, [], 0, false, none, 0, 0, [], 0, 1, rfl, by omega, by omega, Lim.nil _ _ _, Lim.nil _ _ _, rfl, rfl, below_put6 HS.out (by omega) _ _ _ _ _ _ _ _ _ _, HP0.out⟩
      have u0 := HR.out.x0
      have u1 := HR.out.x1
      have u2 := HR.out.x2
      have u3 := HR.out.x3
      have u4 := HR.out.x4
      have u5 := HR.out.x5
      have uf := HR.out.fz
      clear HS HT H1 H2 HI HR h1 h2 q1 HP0
      go_wp2
      exact bodyPost_ret (v := .tuple #[.agg #[.bool false, .slice none 0 0, .int .i64 0, .bool false, .slice none 0 0, .int .i64 0], .int .i64 1]) (by simp [results, Tryd.results24, go_sem, u0, u1, u2, u3, u4, u5]) rfl Hfin.out
    · have zd : decide (bi < 1) = false := decide_eq_false zc
      have zf : 4096 < bi := by rcases HNO.out with h | h | h; cases h; exact absurd h zc; exact h
      have zg : decide (4096 < bi) = true := decide_eq_true zf
      clear HNO zc zf
      have Hfin : Hid (VTold w P0 (.returned (.tuple #[.agg #[.bool false, .slice none 0 0, .int .i64 0, .bool false, .slice none 0 0, .int .i64 0], .int .i64 1])) (World.put6 w1 (w.heap.size + 1) false none 0 0 0 false none 0 0 0)) := ⟨false, none, 0, 0, [], 0, false, none, 0, 0, [], 0, 1, rfl, by omega, by omega, Lim.nil _ _ _, Lim.nil _ _ _, rfl, rfl, below_put6 HS.out (by omega) _ _ _ _ _ _ _ _ _ _, HP0.out⟩
      have u0 := HR.out.x0
      have u1 := HR.out.x1
      have u2 := HR.out.x2
      have u3 := HR.out.x3
      have u4 := HR.out.x4
      have u5 := HR.out.x5
      have uf := HR.out.fz
      clear HS HT H1 H2 HI HR h1 h2 q1 HP0
      go_wp2
      exact bodyPost_ret (v := .tuple #[.agg #[.bool false, .slice none 0 0, .int .i64 0, .bool false, .slice none 0 0, .int .i64 0], .int .i64 1]) (by simp [results, Tryd.results24, go_sem, u0, u1, u2, u3, u4, u5]) rfl Hfin.out
end Go.Proofs.YtnkbdjbcfkflpaaDoor
