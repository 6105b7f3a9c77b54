/- The walk of the law ExpsTell where exp is held against the document's (written by law_etell.py). -/
import Derived.Test.YtijhdlkfihjbiaaGreatDoorEpTellM
import Derived.Test.YtijhdlkfihjbiaaGreatDoorEpBig
import Derived.Test.YtijhdlkfihjbiaaGreatDoorEpAlive
namespace Go.Proofs.YtijhdlkfihjbiaaGreatDoor
open Go.RowKit

set_option maxHeartbeats 8000000 in
set_option maxRecDepth 20000 in
theorem etell_nil (g : Bool) (A : Option Addr) (n c : Nat) (xs : List Nat) (e0 : Int) (z : Nat) (w : World) (hT : Tab w) (hA : Lim w A n c xs) (hn : n ≤ 1048576) (hn20 : n ≤ 20) (hz8 : 8 ≤ z) (hz9 : z ≤ 300) (hr : Right14 (nO g (val xs) e0).V (nO g (val xs) e0).e) (hw : ∀ k a b c d, EpW z (nO g (val xs) e0) (nO g (val xs) e0) k a b c d → b ≤ 2 ^ z) (ht : (nO g (val xs) e0).V = 0) :
    Calls Tryz.prog 3 #[.agg #[.bool g, .slice A n c, .int .i64 e0], .int .i64 (z : Int)] w fun e w' => e = .returned (.bool true) ∧ Below w.heap.size w w' := by
  obtain ⟨⟨ng, nV, nE⟩, hO⟩ : ∃ o, nO g (val xs) e0 = o := ⟨_, rfl⟩
  have a1 := below1 w (.cells #[.bool g, .slice A n c, .int .i64 e0] 24)
  have HS := Lib.hid a1
  have HT := Lib.hid (hT.below a1)
  have HXl := Lib.hid (hA.below a1)
  have HX := Lib.hid (Bd.new w 24 g A n c e0)
  have H1 := Lib.hid (ealive_any _ HT.out)
  have HO := Lib.hid hO
  have HFar : Hid (Hid (decide (20 < n ∨ (400 < (z : Int) ∧ (z : Int) ≤ 8900)) = false)) := Lib.hid (decide_eq_false (by omega))
  have d3 : decide ((300 : Int) < (z : Int)) = false := decide_eq_false (by omega)
  have d3n : decide (300 < z) = false := decide_eq_false (by omega)
  have hRM := (right14_mid hO).1 (by rw [← hO]; exact hr)
  rw [hO] at hr hw ht
  dsimp only at hr hRM ht
  have HR : Hid (decide ((8 ≤ (z : Int) ∧ (z : Int) ≤ 8900) ∧ Right14 nV nE) = true) := decide_eq_true ⟨⟨by omega, by omega⟩, hr⟩
  have HM : Hid (mk g (val xs) e0 = some ⟨ng, nV, nE⟩ ∧ Mid ⟨ng, nV, nE⟩ ∧ Fine ⟨ng, nV, nE⟩) := ⟨hRM.1, hRM.2, (mk_fine hRM.1).1⟩
  have hE1 : -20000 ≤ nE := hRM.2.2.1
  have hE2 : nE ≤ 1073741824 := hr.1.2
  have HW := Lib.hid hw
  have Ht := Lib.hid ht
  clear hT hA a1 hO hr hRM hw ht
  go_enter Tryz.func3, Tryz.ntmps3
  go_wp2_with fail
  refine H1.out.mono ?_
  rintro e w1 ⟨rfl, hB⟩
  replace HT : Hid (Tab w1) := HT.out.below hB
  replace HXl : Hid (Lim w1 A n c xs) := HXl.out.below hB
  replace HX : Hid (Bd w1 w.heap.size 24 g A n c e0) := HX.out.below hB
  replace HS := Lib.hid (HS.out.trans (hB.mono HS.out.size))
  clear hB H1
  have HX_0 := HX.out.c0
  have HX_1 := HX.out.c1
  have HX_2 := HX.out.c2
  have H2 := eof_lB g A n c xs e0 w1 HXl.out hn
  rw [HO.out] at H2
  replace H2 := Lib.hid H2
  go_wp2_with fail
  refine H2.out.mono ?_
  rintro e w2 ⟨An, mn, cn, dn, rfl, hmn, hln, hbn, hvn, hB⟩
  clear HX_0 HX_1 HX_2
  replace HT : Hid (Tab w2) := HT.out.below hB
  replace HXl : Hid (Lim w2 A n c xs) := HXl.out.below hB
  replace HX : Hid (Bd w2 w.heap.size 24 g A n c e0) := HX.out.below hB
  replace HS := Lib.hid (HS.out.trans (hB.mono HS.out.size))
  dsimp only at hvn
  have HNd : Hid (Dig w2 An mn cn dn ∧ D.Bare dn ∧ D.val dn = nV) := ⟨hln, hbn, hvn⟩
  clear hln hbn hvn hB H2
  have ba := below1 w2 (.cells #[.bool ng, .slice An mn cn, .int .i64 nE] 28)
  replace HT : Hid (Tab (w2.alloc (.cells #[.bool ng, .slice An mn cn, .int .i64 nE] 28))) := HT.out.below ba
  replace HXl : Hid (Lim (w2.alloc (.cells #[.bool ng, .slice An mn cn, .int .i64 nE] 28)) A n c xs) := HXl.out.below ba
  replace HX : Hid (Bd (w2.alloc (.cells #[.bool ng, .slice An mn cn, .int .i64 nE] 28)) w.heap.size 24 g A n c e0) := HX.out.below ba
  replace HNd : Hid (Dig (w2.alloc (.cells #[.bool ng, .slice An mn cn, .int .i64 nE] 28)) An mn cn dn ∧ D.Bare dn ∧ D.val dn = nV) := ⟨HNd.out.1.below ba, HNd.out.2⟩
  replace HS := Lib.hid (HS.out.trans (ba.mono HS.out.size))
  clear ba
  have HNb : Hid (Bd (w2.alloc (.cells #[.bool ng, .slice An mn cn, .int .i64 nE] 28)) w2.heap.size 28 ng An mn cn nE) := Bd.new w2 28 ng An mn cn nE
  have HX_0 := HX.out.c0
  have HX_1 := HX.out.c1
  have HX_2 := HX.out.c2
  have H3 := Lib.hid (efar_l false g A n c e0 (z : Int) (w2.alloc (.cells #[.bool ng, .slice An mn cn, .int .i64 nE] 28)) (by omega) HFar.out)
  go_wp2_with fail
  refine H3.out.mono ?_
  rintro e w3 ⟨rfl, hB⟩
  clear HX_0 HX_1 HX_2
  replace HT : Hid (Tab w3) := HT.out.below hB
  replace HXl : Hid (Lim w3 A n c xs) := HXl.out.below hB
  replace HX : Hid (Bd w3 w.heap.size 24 g A n c e0) := HX.out.below hB
  replace HNd : Hid (Dig w3 An mn cn dn ∧ D.Bare dn ∧ D.val dn = nV) := ⟨HNd.out.1.below hB, HNd.out.2⟩
  replace HNb : Hid (Bd w3 w2.heap.size 28 ng An mn cn nE) := HNb.out.below hB
  replace HS := Lib.hid (HS.out.trans (hB.mono HS.out.size))
  clear hB H3
  clear HFar
  have HNb_0 := HNb.out.c0
  have HNb_1 := HNb.out.c1
  have HNb_2 := HNb.out.c2
  have H4 := Lib.hid (eright_l true ng An mn cn dn nE (z : Int) w3 HNd.out.1 HNd.out.2.1 (by omega) (by rw [HNd.out.2.2]; exact HR.out))
  go_wp2_with fail
  refine H4.out.mono ?_
  rintro e w4 ⟨rfl, hB⟩
  clear HNb_0 HNb_1 HNb_2
  replace HT : Hid (Tab w4) := HT.out.below hB
  replace HXl : Hid (Lim w4 A n c xs) := HXl.out.below hB
  replace HX : Hid (Bd w4 w.heap.size 24 g A n c e0) := HX.out.below hB
  replace HNd : Hid (Dig w4 An mn cn dn ∧ D.Bare dn ∧ D.val dn = nV) := ⟨HNd.out.1.below hB, HNd.out.2⟩
  replace HNb : Hid (Bd w4 w2.heap.size 28 ng An mn cn nE) := HNb.out.below hB
  replace HS := Lib.hid (HS.out.trans (hB.mono HS.out.size))
  clear hB H4
  clear HR
  have HX_0 := HX.out.c0
  have HX_1 := HX.out.c1
  have HX_2 := HX.out.c2
  have H5 := Lib.hid (exp_l g A n c xs e0 g A n c xs e0 (z : Int) w4 HXl.out HXl.out (by omega) (by omega) HT.out (by omega))
  go_wp2_with fail
  refine H5.out.mono ?_
  rintro e w5 ⟨g5a, A5a, m5a, c5a, s5a, e5a, g5b, A5b, m5b, c5b, s5b, e5b, r5, rfl, hm5a, hm5b, hl5a, hl5b, hb5a, hb5b, hB, hq⟩
  clear HX_0 HX_1 HX_2
  replace HT : Hid (Tab w5) := HT.out.below hB
  replace HXl : Hid (Lim w5 A n c xs) := HXl.out.below hB
  replace HX : Hid (Bd w5 w.heap.size 24 g A n c e0) := HX.out.below hB
  replace HNd : Hid (Dig w5 An mn cn dn ∧ D.Bare dn ∧ D.val dn = nV) := ⟨HNd.out.1.below hB, HNd.out.2⟩
  replace HNb : Hid (Bd w5 w2.heap.size 28 ng An mn cn nE) := HNb.out.below hB
  replace HS := Lib.hid (HS.out.trans (hB.mono HS.out.size))
  have HLi : Hid (Lim w5 A5a m5a c5a s5a) := hl5a
  have HHi : Hid (Lim w5 A5b m5b c5b s5b) := hl5b
  have HBi : Hid (Bare s5a ∧ Bare s5b) := ⟨hb5a, hb5b⟩
  obtain ⟨rfl, kk, hE⟩ := expp_ok (X := ⟨g5a, val s5a, e5a⟩) (Y := ⟨g5b, val s5b, e5b⟩) HM.out.1 HM.out.1 HM.out.2.1 HM.out.2.1 (Int.le_refl _) (by omega) (by omega) HW.out hq
  have HE : Hid (EpV z ⟨ng, nV, nE⟩ ⟨ng, nV, nE⟩ kk ⟨g5a, val s5a, e5a⟩ ⟨g5b, val s5b, e5b⟩) := hE
  clear hE
  clear hl5a hl5b hb5a hb5b hB hq H5
  have ba := below1 w5 (.cells #[.bool g5a, .slice A5a m5a c5a, .int .i64 e5a, .bool g5b, .slice A5b m5b c5b, .int .i64 e5b] 34)
  replace HT : Hid (Tab (w5.alloc (.cells #[.bool g5a, .slice A5a m5a c5a, .int .i64 e5a, .bool g5b, .slice A5b m5b c5b, .int .i64 e5b] 34))) := HT.out.below ba
  replace HXl : Hid (Lim (w5.alloc (.cells #[.bool g5a, .slice A5a m5a c5a, .int .i64 e5a, .bool g5b, .slice A5b m5b c5b, .int .i64 e5b] 34)) A n c xs) := HXl.out.below ba
  replace HX : Hid (Bd (w5.alloc (.cells #[.bool g5a, .slice A5a m5a c5a, .int .i64 e5a, .bool g5b, .slice A5b m5b c5b, .int .i64 e5b] 34)) w.heap.size 24 g A n c e0) := HX.out.below ba
  replace HNd : Hid (Dig (w5.alloc (.cells #[.bool g5a, .slice A5a m5a c5a, .int .i64 e5a, .bool g5b, .slice A5b m5b c5b, .int .i64 e5b] 34)) An mn cn dn ∧ D.Bare dn ∧ D.val dn = nV) := ⟨HNd.out.1.below ba, HNd.out.2⟩
  replace HNb : Hid (Bd (w5.alloc (.cells #[.bool g5a, .slice A5a m5a c5a, .int .i64 e5a, .bool g5b, .slice A5b m5b c5b, .int .i64 e5b] 34)) w2.heap.size 28 ng An mn cn nE) := HNb.out.below ba
  replace HLi : Hid (Lim (w5.alloc (.cells #[.bool g5a, .slice A5a m5a c5a, .int .i64 e5a, .bool g5b, .slice A5b m5b c5b, .int .i64 e5b] 34)) A5a m5a c5a s5a) := HLi.out.below ba
  replace HHi : Hid (Lim (w5.alloc (.cells #[.bool g5a, .slice A5a m5a c5a, .int .i64 e5a, .bool g5b, .slice A5b m5b c5b, .int .i64 e5b] 34)) A5b m5b c5b s5b) := HHi.out.below ba
  replace HS := Lib.hid (HS.out.trans (ba.mono HS.out.size))
  clear ba
  have HIi : Hid (Ib (w5.alloc (.cells #[.bool g5a, .slice A5a m5a c5a, .int .i64 e5a, .bool g5b, .slice A5b m5b c5b, .int .i64 e5b] 34)) w5.heap.size g5a A5a m5a c5a e5a g5b A5b m5b c5b e5b) := Ib.new w5 g5a A5a m5a c5a e5a g5b A5b m5b c5b e5b
  clear HW
  have HNb_0 := HNb.out.c0
  have HNb_1 := HNb.out.c1
  have HNb_2 := HNb.out.c2
  have m0 : mn = 0 := (dig_nil HNd.out.1 HNd.out.2.1).2 (by rw [HNd.out.2.2]; exact Ht.out)
  have dm : decide ((0 : Int) < (mn : Int)) = false := decide_eq_false (by omega)
  have dmn : decide (0 < mn) = false := decide_eq_false (by omega)
  clear m0
  obtain ⟨m, hm⟩ : ∃ m, z + 80 = m := ⟨_, rfl⟩
  have em : (z : Int) + 80 = (m : Int) := by omega
  have HZn : Hid (sz nV nE ≤ 1024 * ub) := top_sz (d := ⟨ng, nV, nE⟩) HM.out.2.2 (by intro h; exact absurd Ht.out h)
  have hE3 : nE ≤ 10 := by have := (HM.out.2.2.2.2 Ht.out).2; dsimp only at this; omega
  clear HNb_0 HNb_1 HNb_2
  have HNb_0 := HNb.out.c0
  have HNb_1 := HNb.out.c1
  have HNb_2 := HNb.out.c2
  have H8 := Lib.hid (pexp_l ng An mn cn dn nE m (w5.alloc (.cells #[.bool g5a, .slice A5a m5a c5a, .int .i64 e5a, .bool g5b, .slice A5b m5b c5b, .int .i64 e5b] 34)) HNd.out.1 HNd.out.2.1 (by omega) hE3 (by rw [HNd.out.2.2]; exact HZn.out) (by omega) (by omega))
  go_wp2_with fail
  refine H8.out.mono ?_
  rintro e w6 ⟨kx, Z, hD, Ax, mx, cx, dx, rfl, hmx, hlx, hbx, hvx, hB⟩
  clear HNb_0 HNb_1 HNb_2
  replace HT : Hid (Tab w6) := HT.out.below hB
  replace HXl : Hid (Lim w6 A n c xs) := HXl.out.below hB
  replace HX : Hid (Bd w6 w.heap.size 24 g A n c e0) := HX.out.below hB
  replace HNd : Hid (Dig w6 An mn cn dn ∧ D.Bare dn ∧ D.val dn = nV) := ⟨HNd.out.1.below hB, HNd.out.2⟩
  replace HNb : Hid (Bd w6 w2.heap.size 28 ng An mn cn nE) := HNb.out.below hB
  replace HLi : Hid (Lim w6 A5a m5a c5a s5a) := HLi.out.below hB
  replace HHi : Hid (Lim w6 A5b m5b c5b s5b) := HHi.out.below hB
  replace HIi : Hid (Ib w6 w5.heap.size g5a A5a m5a c5a e5a g5b A5b m5b c5b e5b) := HIi.out.below hB
  replace HS := Lib.hid (HS.out.trans (hB.mono HS.out.size))
  rw [HNd.out.2.2] at hD
  obtain ⟨⟨tw1, tw2⟩, tw3, tw4, tw5, tw6⟩ := tell_words (by omega) (by omega) HM.out.2.2 HZn.out HM.out.2.1 HE.out (by rw [hm]; exact hD)
  rw [hm] at tw1 tw2 tw5 tw6
  dsimp only at hvx
  have HXd : Hid (Dig w6 Ax mx cx dx ∧ D.Bare dx ∧ D.val dx = Z) := ⟨hlx, hbx, hvx⟩
  obtain ⟨xE, hxE⟩ : ∃ x : Int, kx - (m : Int) = x := ⟨_, rfl⟩
  obtain ⟨t, ht⟩ : ∃ t, rtop Z xE = t := ⟨_, rfl⟩
  have ht2 : (blen Z : Int) - 1 + xE = t := ht
  rw [hxE] at tw1 tw2 tw5 tw6
  rw [ht2] at tw1 tw2 tw5 tw6
  rw [hxE]
  obtain ⟨fE, hfE⟩ : ∃ x : Int, t - (m : Int) = x := ⟨_, rfl⟩
  rw [hfE] at tw1 tw2
  have HTw : Hid (dw g5a (val s5a) e5a ≤ dw false Z xE + dw false 1099511627776 fE ∧ dw false Z xE + dw true 1099511627776 fE ≤ dw g5b (val s5b) e5b) := ⟨tw1, tw2⟩
  have HTx : Hid ((Z ≠ 0 ∧ rtop Z xE = t) ∧ t - (m : Int) = fE) := ⟨⟨tw4, ht⟩, hfE⟩
  have hx1 : -4000 ≤ xE := by omega
  have hx2 : xE ≤ 4000 := by omega
  have ht1 : -20000 ≤ t := by omega
  have ht3 : t ≤ 20000 := by omega
  have hf1 : xE ≤ fE := by omega
  have hf2 : fE ≤ xE + 16 := by omega
  clear hlx hbx hvx hB H8 hD tw1 tw2 tw3 tw4 tw5 tw6 ht ht2 hxE hfE hm
  have ba := below1 w6 (.cells #[.bool false, .slice Ax mx cx, .int .i64 xE] 28)
  replace HT : Hid (Tab (w6.alloc (.cells #[.bool false, .slice Ax mx cx, .int .i64 xE] 28))) := HT.out.below ba
  replace HXl : Hid (Lim (w6.alloc (.cells #[.bool false, .slice Ax mx cx, .int .i64 xE] 28)) A n c xs) := HXl.out.below ba
  replace HX : Hid (Bd (w6.alloc (.cells #[.bool false, .slice Ax mx cx, .int .i64 xE] 28)) w.heap.size 24 g A n c e0) := HX.out.below ba
  replace HNd : Hid (Dig (w6.alloc (.cells #[.bool false, .slice Ax mx cx, .int .i64 xE] 28)) An mn cn dn ∧ D.Bare dn ∧ D.val dn = nV) := ⟨HNd.out.1.below ba, HNd.out.2⟩
  replace HNb : Hid (Bd (w6.alloc (.cells #[.bool false, .slice Ax mx cx, .int .i64 xE] 28)) w2.heap.size 28 ng An mn cn nE) := HNb.out.below ba
  replace HLi : Hid (Lim (w6.alloc (.cells #[.bool false, .slice Ax mx cx, .int .i64 xE] 28)) A5a m5a c5a s5a) := HLi.out.below ba
  replace HHi : Hid (Lim (w6.alloc (.cells #[.bool false, .slice Ax mx cx, .int .i64 xE] 28)) A5b m5b c5b s5b) := HHi.out.below ba
  replace HIi : Hid (Ib (w6.alloc (.cells #[.bool false, .slice Ax mx cx, .int .i64 xE] 28)) w5.heap.size g5a A5a m5a c5a e5a g5b A5b m5b c5b e5b) := HIi.out.below ba
  replace HXd : Hid (Dig (w6.alloc (.cells #[.bool false, .slice Ax mx cx, .int .i64 xE] 28)) Ax mx cx dx ∧ D.Bare dx ∧ D.val dx = Z) := ⟨HXd.out.1.below ba, HXd.out.2⟩
  replace HS := Lib.hid (HS.out.trans (ba.mono HS.out.size))
  clear ba
  have HXb : Hid (Bd (w6.alloc (.cells #[.bool false, .slice Ax mx cx, .int .i64 xE] 28)) w6.heap.size 28 false Ax mx cx xE) := Bd.new w6 28 false Ax mx cx xE
  have HXb_0 := HXb.out.c0
  have HXb_1 := HXb.out.c1
  have HXb_2 := HXb.out.c2
  have H9 := Lib.hid (rtop_l t false Ax mx cx dx xE (w6.alloc (.cells #[.bool false, .slice Ax mx cx, .int .i64 xE] 28)) HXd.out.1 HXd.out.2.1 (by omega) (by omega) (by omega) (by rw [HXd.out.2.2]; exact HTx.out.1.2))
  go_wp2_with fail
  refine H9.out.mono ?_
  rintro e w7 ⟨rfl, hB⟩
  clear HXb_0 HXb_1 HXb_2
  replace HT : Hid (Tab w7) := HT.out.below hB
  replace HXl : Hid (Lim w7 A n c xs) := HXl.out.below hB
  replace HX : Hid (Bd w7 w.heap.size 24 g A n c e0) := HX.out.below hB
  replace HNd : Hid (Dig w7 An mn cn dn ∧ D.Bare dn ∧ D.val dn = nV) := ⟨HNd.out.1.below hB, HNd.out.2⟩
  replace HNb : Hid (Bd w7 w2.heap.size 28 ng An mn cn nE) := HNb.out.below hB
  replace HLi : Hid (Lim w7 A5a m5a c5a s5a) := HLi.out.below hB
  replace HHi : Hid (Lim w7 A5b m5b c5b s5b) := HHi.out.below hB
  replace HIi : Hid (Ib w7 w5.heap.size g5a A5a m5a c5a e5a g5b A5b m5b c5b e5b) := HIi.out.below hB
  replace HXd : Hid (Dig w7 Ax mx cx dx ∧ D.Bare dx ∧ D.val dx = Z) := ⟨HXd.out.1.below hB, HXd.out.2⟩
  replace HXb : Hid (Bd w7 w6.heap.size 28 false Ax mx cx xE) := HXb.out.below hB
  replace HS := Lib.hid (HS.out.trans (hB.mono HS.out.size))
  clear hB H9
  have HX_0 := HX.out.c0
  have HX_1 := HX.out.c1
  have HX_2 := HX.out.c2
  have H10 := Lib.hid (split_l g A n c xs e0 g A n c xs e0 (z : Int) w7 HXl.out HXl.out (by omega) (by omega) HT.out (by omega))
  go_wp2_with fail
  refine H10.out.mono ?_
  rintro e w8 ⟨k0, A3, m3, c3, s3, A4, m4, c4, s4, r, rfl, hm3, hm4, hl3, hl4, hB, hq⟩
  clear HX_0 HX_1 HX_2
  replace HT : Hid (Tab w8) := HT.out.below hB
  replace HXl : Hid (Lim w8 A n c xs) := HXl.out.below hB
  replace HX : Hid (Bd w8 w.heap.size 24 g A n c e0) := HX.out.below hB
  replace HNd : Hid (Dig w8 An mn cn dn ∧ D.Bare dn ∧ D.val dn = nV) := ⟨HNd.out.1.below hB, HNd.out.2⟩
  replace HNb : Hid (Bd w8 w2.heap.size 28 ng An mn cn nE) := HNb.out.below hB
  replace HLi : Hid (Lim w8 A5a m5a c5a s5a) := HLi.out.below hB
  replace HHi : Hid (Lim w8 A5b m5b c5b s5b) := HHi.out.below hB
  replace HIi : Hid (Ib w8 w5.heap.size g5a A5a m5a c5a e5a g5b A5b m5b c5b e5b) := HIi.out.below hB
  replace HXd : Hid (Dig w8 Ax mx cx dx ∧ D.Bare dx ∧ D.val dx = Z) := ⟨HXd.out.1.below hB, HXd.out.2⟩
  replace HXb : Hid (Bd w8 w6.heap.size 28 false Ax mx cx xE) := HXb.out.below hB
  replace HS := Lib.hid (HS.out.trans (hB.mono HS.out.size))
  obtain ⟨hr0, hk0⟩ := split_same HM.out.1 HE.out ⟨HM.out.1, HM.out.1, HM.out.2.1, HM.out.2.1, Int.le_refl _, by omega, by omega⟩ hq
  subst hr0 hk0
  clear hm3 hm4 hl3 hl4 hB hq H10
  obtain ⟨Lo, Hi, j, u1, u2, l1, l2, j1, j2, o1, o2, b1, b2, k9⟩ := tell_ends (by omega) (by omega) HZn.out HE.out
  obtain ⟨K, hK⟩ : ∃ K, k0.natAbs = K := ⟨_, rfl⟩
  have emx : max k0 (-k0) = (K : Int) := by omega
  have wn : IntKind.i64.wrap (-k0) = -k0 := by rw [IntKind.wrap_i64]; omega
  obtain ⟨z8, h8⟩ : ∃ x, 8 * z = x := ⟨_, rfl⟩
  have e8 : (8 : Int) * (z : Int) = (z8 : Int) := by omega
  obtain ⟨y8, hy8⟩ : ∃ x, z8 + 131 = x := ⟨_, rfl⟩
  have ey8 : (z8 : Int) + 131 = (y8 : Int) := by omega
  obtain ⟨K3, hK3⟩ : ∃ x, 3 * K = x := ⟨_, rfl⟩
  have eK3 : (3 : Int) * (K : Int) = (K3 : Int) := by omega
  obtain ⟨z2, h2⟩ : ∃ x, 2 * z = x := ⟨_, rfl⟩
  have e2 : (2 : Int) * (z : Int) = (z2 : Int) := by omega
  obtain ⟨y2, hy2⟩ : ∃ x, z2 + 128 = x := ⟨_, rfl⟩
  have ey2 : (z2 : Int) + 128 = (y2 : Int) := by omega
  have r8 : y8 ≤ 2531 := by omega
  have r3 : K3 ≤ 9228 := by omega
  have r2 : y2 ≤ 728 := by omega
  have r0 : K ≤ 3076 := by omega
  have rz8 : z8 ≤ 2400 := by omega
  have rz2 : z2 ≤ 600 := by omega
  obtain ⟨M, hM⟩ : ∃ x, K3 * y2 = x := ⟨_, rfl⟩
  have eM : (K3 : Int) * (y2 : Int) = (M : Int) := by rw [← hM, Int.natCast_mul]
  have rM : M ≤ 9228 * 728 := by rw [← hM]; exact Nat.mul_le_mul r3 r2
  obtain ⟨N, hN⟩ : ∃ x, y8 + M = x := ⟨_, rfl⟩
  have eN : (y8 : Int) + (M : Int) = (N : Int) := by omega
  have rN : N ≤ 7000000 := by omega
  have wi64z8 : IntKind.i64.wrap (z8 : Int) = (z8 : Int) := by rw [IntKind.wrap_i64]; omega
  have wi64y8 : IntKind.i64.wrap (y8 : Int) = (y8 : Int) := by rw [IntKind.wrap_i64]; omega
  have wu64y8 : IntKind.u64.wrap (y8 : Int) = (y8 : Int) := by rw [IntKind.wrap_u64]; omega
  have wu64K : IntKind.u64.wrap (K : Int) = (K : Int) := by rw [IntKind.wrap_u64]; omega
  have wu64K3 : IntKind.u64.wrap (K3 : Int) = (K3 : Int) := by rw [IntKind.wrap_u64]; omega
  have wi64z2 : IntKind.i64.wrap (z2 : Int) = (z2 : Int) := by rw [IntKind.wrap_i64]; omega
  have wi64y2 : IntKind.i64.wrap (y2 : Int) = (y2 : Int) := by rw [IntKind.wrap_i64]; omega
  have wu64y2 : IntKind.u64.wrap (y2 : Int) = (y2 : Int) := by rw [IntKind.wrap_u64]; omega
  have wu64M : IntKind.u64.wrap (M : Int) = (M : Int) := by rw [IntKind.wrap_u64]; omega
  have wu64N : IntKind.u64.wrap (N : Int) = (N : Int) := by rw [IntKind.wrap_u64]; omega
  obtain ⟨qq, hqq⟩ : ∃ x : Int, (z : Int) - k0 = x := ⟨_, rfl⟩
  have wq : IntKind.i64.wrap ((z : Int) - k0) = qq := by rw [hqq, IntKind.wrap_i64]; omega
  have eNN : 8 * z + 131 + 3 * k0.natAbs * (2 * z + 128) = N := by rw [hK, h8, hK3, h2, hy8, hy2, hM, hN]
  rw [eNN] at o2
  rw [hqq] at j1 j2
  have HQ : Hid (Un 9000 Lo ⟨g5a, val s5a, e5a⟩ ∧ Un 9000 Hi ⟨g5b, val s5b, e5b⟩ ∧ Lo.natAbs < 2 ^ (9000 + 4000) ∧ Hi.natAbs < 2 ^ (9000 + 4000)) := ⟨u1, u2, l1, l2⟩
  have HJ : Hid (((9000 : Nat) : Int) = qq + (j : Int) ∧ -9000 ≤ qq ∧ Lo ≤ Hi ∧ Hi - Lo ≤ (N : Int) * ((2 ^ j : Nat) : Int)) := ⟨j1, j2, o1, o2⟩
  have hs_a : m5a ≤ 160 := Nat.le_trans (bare_le HLi.out HBi.out.1 b1) (by decide)
  have hs_b : m5b ≤ 160 := Nat.le_trans (bare_le HHi.out HBi.out.2 b2) (by decide)
  clear u1 u2 l1 l2 j1 j2 o1 o2 b1 b2 k9 hK h8 hy8 hK3 h2 hy2 hM hN hqq eNN HM HE HZn Ht
  clear HX HXl HNd HNb
  have cur := Lib.hid (below_drew w8)
  have KO : Hid (∀ u, Below w8.heap.size w8 u → Calls Tryz.prog 14 #[.int .i64 t, .int .i64 (m : Int)] u (NTold u ⟨false, 1099511627776, fE⟩ 3)) := fun u _ => by have h := peoff_l t m u ht1 ht3 (by omega); rw [HTx.out.2] at h; exact h
  have KH : Hid (∀ u B r b fs, Below w8.heap.size w8 u → Dig u B r b fs → D.Bare fs → D.val fs = 1099511627776 → r ≤ 3 → Calls Tryz.prog 13 #[.agg #[.bool g5a, .slice A5a m5a c5a, .int .i64 e5a, .bool g5b, .slice A5b m5b c5b, .int .i64 e5b], .agg #[.bool false, .slice Ax mx cx, .int .i64 xE], .agg #[.bool false, .slice B r b, .int .i64 fE]] u fun e w' => e = .returned (.bool true) ∧ Below u.heap.size u w') := fun u B r b fs hu a1 a2 a3 a4 =>
    eholds_l g5a A5a m5a c5a s5a e5a g5b A5b m5b c5b s5b e5b false Ax mx cx dx xE false B r b fs fE 9000 Lo Hi u (HLi.out.below hu) (HHi.out.below hu) (HXd.out.1.below hu) a1 HXd.out.2.1 a2 hs_a hs_b (by omega) (by omega) (by omega) (by omega) hf1 hf2 (by rw [HXd.out.2.2]; exact HTx.out.1.1) (by decide) HQ.out.1 HQ.out.2.1 HQ.out.2.2.1 HQ.out.2.2.2 (by rw [HXd.out.2.2, a3]; exact HTw.out.1) (by rw [HXd.out.2.2, a3]; exact HTw.out.2)
  have KT : Hid (∀ u, Below w8.heap.size w8 u → Calls Tryz.prog 15 #[.agg #[.bool g5a, .slice A5a m5a c5a, .int .i64 e5a, .bool g5b, .slice A5b m5b c5b, .int .i64 e5b], .int .u64 (N : Int), .int .i64 qq] u fun e w' => e = .returned (.bool true) ∧ Below u.heap.size u w') := fun u hu =>
    ethin_l g5a A5a m5a c5a s5a e5a g5b A5b m5b c5b s5b e5b N 9000 j qq Lo Hi u (HLi.out.below hu) (HHi.out.below hu) (by omega) (by omega) (HT.out.below hu) (by decide) (by omega) HQ.out.1 HQ.out.2.1 HQ.out.2.2.1 HQ.out.2.2.2 HJ.out.1 HJ.out.2.1 HJ.out.2.2.1 HJ.out.2.2.2
  have HW : Hid (∀ u, Below w8.heap.size w8 u → u.cell? ⟨w5.heap.size, 0, none⟩ = some (.bool g5a) ∧ u.cell? ⟨w5.heap.size, 1, none⟩ = some (.slice A5a m5a c5a) ∧ u.cell? ⟨w5.heap.size, 2, none⟩ = some (.int .i64 e5a) ∧ u.cell? ⟨w5.heap.size, 3, none⟩ = some (.bool g5b) ∧ u.cell? ⟨w5.heap.size, 4, none⟩ = some (.slice A5b m5b c5b) ∧ u.cell? ⟨w5.heap.size, 5, none⟩ = some (.int .i64 e5b) ∧ u.cell? ⟨w6.heap.size, 0, none⟩ = some (.bool false) ∧ u.cell? ⟨w6.heap.size, 1, none⟩ = some (.slice Ax mx cx) ∧ u.cell? ⟨w6.heap.size, 2, none⟩ = some (.int .i64 xE)) := fun u hu => ⟨(HIi.out.below hu).x0, (HIi.out.below hu).x1, (HIi.out.below hu).x2, (HIi.out.below hu).x3, (HIi.out.below hu).x4, (HIi.out.below hu).x5, (HXb.out.below hu).c0, (HXb.out.below hu).c1, (HXb.out.below hu).c2⟩
  have HSd := Lib.hid HS.out
  clear HS HO HQ HJ HTw HTx HBi hE1 hE2 hE3 hx1 hx2 hf1 hf2 hs_a hs_b HT HLi HHi HIi HXd HXb
  go_wp2_with fail
  go_region_held3 (fun u => u.cell? ⟨w5.heap.size, 0, none⟩ = some (.bool g5a) ∧ u.cell? ⟨w5.heap.size, 1, none⟩ = some (.slice A5a m5a c5a) ∧ u.cell? ⟨w5.heap.size, 2, none⟩ = some (.int .i64 e5a) ∧ u.cell? ⟨w5.heap.size, 3, none⟩ = some (.bool g5b) ∧ u.cell? ⟨w5.heap.size, 4, none⟩ = some (.slice A5b m5b c5b) ∧ u.cell? ⟨w5.heap.size, 5, none⟩ = some (.int .i64 e5b) ∧ u.cell? ⟨w6.heap.size, 0, none⟩ = some (.bool false) ∧ u.cell? ⟨w6.heap.size, 1, none⟩ = some (.slice Ax mx cx) ∧ u.cell? ⟨w6.heap.size, 2, none⟩ = some (.int .i64 xE)) (with_reducible exact HW.out _ cur.out)
    (first
      | (go_at_call 14; (with_reducible refine (KO.out _ cur.out).mono ?_); rintro e ud ⟨Af, mf, cf, df, rfl, hmf, hlf, hbf, hvf, hB⟩; (with_reducible (replace cur := Lib.hid (cur.out.trans (hB.mono (cur.out.size))))); clear hB)
      | (go_at_call 13; (with_reducible refine (KH.out _ Af mf cf df cur.out hlf hbf hvf hmf).mono ?_); rintro e ue ⟨rfl, hB⟩; (with_reducible (replace cur := Lib.hid (cur.out.trans (hB.mono (cur.out.size))))); clear hB hlf hbf hvf hmf)
      | (go_at_call 15; (with_reducible refine (KT.out _ cur.out).mono ?_); rintro e uf ⟨rfl, hB⟩; (with_reducible (replace cur := Lib.hid (cur.out.trans (hB.mono (cur.out.size))))); clear hB))
  all_goals (
    have Hfin := Lib.hid (HSd.out.trans (cur.out.mono HSd.out.size))
    clear KO KH KT HW cur HSd
    go_wp2
    go_ret
    exact ⟨rfl, Hfin.out⟩)

set_option maxHeartbeats 8000000 in
set_option maxRecDepth 20000 in
theorem etell_yes (g : Bool) (A : Option Addr) (n c : Nat) (xs : List Nat) (e0 : Int) (z : Nat) (w : World) (hT : Tab w) (hA : Lim w A n c xs) (hn : n ≤ 1048576) (hn20 : n ≤ 20) (hz8 : 8 ≤ z) (hz9 : z ≤ 300) (hr : Right14 (nO g (val xs) e0).V (nO g (val xs) e0).e) (hw : ∀ k a b c d, EpW z (nO g (val xs) e0) (nO g (val xs) e0) k a b c d → b ≤ 2 ^ z) (ht : (nO g (val xs) e0).V ≠ 0 ∧ (blen (nO g (val xs) e0).V : Int) - 1 + (nO g (val xs) e0).e ≤ 9) :
    Calls Tryz.prog 3 #[.agg #[.bool g, .slice A n c, .int .i64 e0], .int .i64 (z : Int)] w fun e w' => e = .returned (.bool true) ∧ Below w.heap.size w w' := by
  obtain ⟨⟨ng, nV, nE⟩, hO⟩ : ∃ o, nO g (val xs) e0 = o := ⟨_, rfl⟩
  have a1 := below1 w (.cells #[.bool g, .slice A n c, .int .i64 e0] 24)
  have HS := Lib.hid a1
  have HT := Lib.hid (hT.below a1)
  have HXl := Lib.hid (hA.below a1)
  have HX := Lib.hid (Bd.new w 24 g A n c e0)
  have H1 := Lib.hid (ealive_any _ HT.out)
  have HO := Lib.hid hO
  have HFar : Hid (Hid (decide (20 < n ∨ (400 < (z : Int) ∧ (z : Int) ≤ 8900)) = false)) := Lib.hid (decide_eq_false (by omega))
  have d3 : decide ((300 : Int) < (z : Int)) = false := decide_eq_false (by omega)
  have d3n : decide (300 < z) = false := decide_eq_false (by omega)
  have hRM := (right14_mid hO).1 (by rw [← hO]; exact hr)
  rw [hO] at hr hw ht
  dsimp only at hr hRM ht
  have HR : Hid (decide ((8 ≤ (z : Int) ∧ (z : Int) ≤ 8900) ∧ Right14 nV nE) = true) := decide_eq_true ⟨⟨by omega, by omega⟩, hr⟩
  have HM : Hid (mk g (val xs) e0 = some ⟨ng, nV, nE⟩ ∧ Mid ⟨ng, nV, nE⟩ ∧ Fine ⟨ng, nV, nE⟩) := ⟨hRM.1, hRM.2, (mk_fine hRM.1).1⟩
  have hE1 : -20000 ≤ nE := hRM.2.2.1
  have hE2 : nE ≤ 1073741824 := hr.1.2
  have HW := Lib.hid hw
  have Ht := Lib.hid ht
  clear hT hA a1 hO hr hRM hw ht
  go_enter Tryz.func3, Tryz.ntmps3
  go_wp2_with fail
  refine H1.out.mono ?_
  rintro e w1 ⟨rfl, hB⟩
  replace HT : Hid (Tab w1) := HT.out.below hB
  replace HXl : Hid (Lim w1 A n c xs) := HXl.out.below hB
  replace HX : Hid (Bd w1 w.heap.size 24 g A n c e0) := HX.out.below hB
  replace HS := Lib.hid (HS.out.trans (hB.mono HS.out.size))
  clear hB H1
  have HX_0 := HX.out.c0
  have HX_1 := HX.out.c1
  have HX_2 := HX.out.c2
  have H2 := eof_lB g A n c xs e0 w1 HXl.out hn
  rw [HO.out] at H2
  replace H2 := Lib.hid H2
  go_wp2_with fail
  refine H2.out.mono ?_
  rintro e w2 ⟨An, mn, cn, dn, rfl, hmn, hln, hbn, hvn, hB⟩
  clear HX_0 HX_1 HX_2
  replace HT : Hid (Tab w2) := HT.out.below hB
  replace HXl : Hid (Lim w2 A n c xs) := HXl.out.below hB
  replace HX : Hid (Bd w2 w.heap.size 24 g A n c e0) := HX.out.below hB
  replace HS := Lib.hid (HS.out.trans (hB.mono HS.out.size))
  dsimp only at hvn
  have HNd : Hid (Dig w2 An mn cn dn ∧ D.Bare dn ∧ D.val dn = nV) := ⟨hln, hbn, hvn⟩
  clear hln hbn hvn hB H2
  have ba := below1 w2 (.cells #[.bool ng, .slice An mn cn, .int .i64 nE] 28)
  replace HT : Hid (Tab (w2.alloc (.cells #[.bool ng, .slice An mn cn, .int .i64 nE] 28))) := HT.out.below ba
  replace HXl : Hid (Lim (w2.alloc (.cells #[.bool ng, .slice An mn cn, .int .i64 nE] 28)) A n c xs) := HXl.out.below ba
  replace HX : Hid (Bd (w2.alloc (.cells #[.bool ng, .slice An mn cn, .int .i64 nE] 28)) w.heap.size 24 g A n c e0) := HX.out.below ba
  replace HNd : Hid (Dig (w2.alloc (.cells #[.bool ng, .slice An mn cn, .int .i64 nE] 28)) An mn cn dn ∧ D.Bare dn ∧ D.val dn = nV) := ⟨HNd.out.1.below ba, HNd.out.2⟩
  replace HS := Lib.hid (HS.out.trans (ba.mono HS.out.size))
  clear ba
  have HNb : Hid (Bd (w2.alloc (.cells #[.bool ng, .slice An mn cn, .int .i64 nE] 28)) w2.heap.size 28 ng An mn cn nE) := Bd.new w2 28 ng An mn cn nE
  have HX_0 := HX.out.c0
  have HX_1 := HX.out.c1
  have HX_2 := HX.out.c2
  have H3 := Lib.hid (efar_l false g A n c e0 (z : Int) (w2.alloc (.cells #[.bool ng, .slice An mn cn, .int .i64 nE] 28)) (by omega) HFar.out)
  go_wp2_with fail
  refine H3.out.mono ?_
  rintro e w3 ⟨rfl, hB⟩
  clear HX_0 HX_1 HX_2
  replace HT : Hid (Tab w3) := HT.out.below hB
  replace HXl : Hid (Lim w3 A n c xs) := HXl.out.below hB
  replace HX : Hid (Bd w3 w.heap.size 24 g A n c e0) := HX.out.below hB
  replace HNd : Hid (Dig w3 An mn cn dn ∧ D.Bare dn ∧ D.val dn = nV) := ⟨HNd.out.1.below hB, HNd.out.2⟩
  replace HNb : Hid (Bd w3 w2.heap.size 28 ng An mn cn nE) := HNb.out.below hB
  replace HS := Lib.hid (HS.out.trans (hB.mono HS.out.size))
  clear hB H3
  clear HFar
  have HNb_0 := HNb.out.c0
  have HNb_1 := HNb.out.c1
  have HNb_2 := HNb.out.c2
  have H4 := Lib.hid (eright_l true ng An mn cn dn nE (z : Int) w3 HNd.out.1 HNd.out.2.1 (by omega) (by rw [HNd.out.2.2]; exact HR.out))
  go_wp2_with fail
  refine H4.out.mono ?_
  rintro e w4 ⟨rfl, hB⟩
  clear HNb_0 HNb_1 HNb_2
  replace HT : Hid (Tab w4) := HT.out.below hB
  replace HXl : Hid (Lim w4 A n c xs) := HXl.out.below hB
  replace HX : Hid (Bd w4 w.heap.size 24 g A n c e0) := HX.out.below hB
  replace HNd : Hid (Dig w4 An mn cn dn ∧ D.Bare dn ∧ D.val dn = nV) := ⟨HNd.out.1.below hB, HNd.out.2⟩
  replace HNb : Hid (Bd w4 w2.heap.size 28 ng An mn cn nE) := HNb.out.below hB
  replace HS := Lib.hid (HS.out.trans (hB.mono HS.out.size))
  clear hB H4
  clear HR
  have HX_0 := HX.out.c0
  have HX_1 := HX.out.c1
  have HX_2 := HX.out.c2
  have H5 := Lib.hid (exp_l g A n c xs e0 g A n c xs e0 (z : Int) w4 HXl.out HXl.out (by omega) (by omega) HT.out (by omega))
  go_wp2_with fail
  refine H5.out.mono ?_
  rintro e w5 ⟨g5a, A5a, m5a, c5a, s5a, e5a, g5b, A5b, m5b, c5b, s5b, e5b, r5, rfl, hm5a, hm5b, hl5a, hl5b, hb5a, hb5b, hB, hq⟩
  clear HX_0 HX_1 HX_2
  replace HT : Hid (Tab w5) := HT.out.below hB
  replace HXl : Hid (Lim w5 A n c xs) := HXl.out.below hB
  replace HX : Hid (Bd w5 w.heap.size 24 g A n c e0) := HX.out.below hB
  replace HNd : Hid (Dig w5 An mn cn dn ∧ D.Bare dn ∧ D.val dn = nV) := ⟨HNd.out.1.below hB, HNd.out.2⟩
  replace HNb : Hid (Bd w5 w2.heap.size 28 ng An mn cn nE) := HNb.out.below hB
  replace HS := Lib.hid (HS.out.trans (hB.mono HS.out.size))
  have HLi : Hid (Lim w5 A5a m5a c5a s5a) := hl5a
  have HHi : Hid (Lim w5 A5b m5b c5b s5b) := hl5b
  have HBi : Hid (Bare s5a ∧ Bare s5b) := ⟨hb5a, hb5b⟩
  obtain ⟨rfl, kk, hE⟩ := expp_ok (X := ⟨g5a, val s5a, e5a⟩) (Y := ⟨g5b, val s5b, e5b⟩) HM.out.1 HM.out.1 HM.out.2.1 HM.out.2.1 (Int.le_refl _) (by omega) (by omega) HW.out hq
  have HE : Hid (EpV z ⟨ng, nV, nE⟩ ⟨ng, nV, nE⟩ kk ⟨g5a, val s5a, e5a⟩ ⟨g5b, val s5b, e5b⟩) := hE
  clear hE
  clear hl5a hl5b hb5a hb5b hB hq H5
  have ba := below1 w5 (.cells #[.bool g5a, .slice A5a m5a c5a, .int .i64 e5a, .bool g5b, .slice A5b m5b c5b, .int .i64 e5b] 34)
  replace HT : Hid (Tab (w5.alloc (.cells #[.bool g5a, .slice A5a m5a c5a, .int .i64 e5a, .bool g5b, .slice A5b m5b c5b, .int .i64 e5b] 34))) := HT.out.below ba
  replace HXl : Hid (Lim (w5.alloc (.cells #[.bool g5a, .slice A5a m5a c5a, .int .i64 e5a, .bool g5b, .slice A5b m5b c5b, .int .i64 e5b] 34)) A n c xs) := HXl.out.below ba
  replace HX : Hid (Bd (w5.alloc (.cells #[.bool g5a, .slice A5a m5a c5a, .int .i64 e5a, .bool g5b, .slice A5b m5b c5b, .int .i64 e5b] 34)) w.heap.size 24 g A n c e0) := HX.out.below ba
  replace HNd : Hid (Dig (w5.alloc (.cells #[.bool g5a, .slice A5a m5a c5a, .int .i64 e5a, .bool g5b, .slice A5b m5b c5b, .int .i64 e5b] 34)) An mn cn dn ∧ D.Bare dn ∧ D.val dn = nV) := ⟨HNd.out.1.below ba, HNd.out.2⟩
  replace HNb : Hid (Bd (w5.alloc (.cells #[.bool g5a, .slice A5a m5a c5a, .int .i64 e5a, .bool g5b, .slice A5b m5b c5b, .int .i64 e5b] 34)) w2.heap.size 28 ng An mn cn nE) := HNb.out.below ba
  replace HLi : Hid (Lim (w5.alloc (.cells #[.bool g5a, .slice A5a m5a c5a, .int .i64 e5a, .bool g5b, .slice A5b m5b c5b, .int .i64 e5b] 34)) A5a m5a c5a s5a) := HLi.out.below ba
  replace HHi : Hid (Lim (w5.alloc (.cells #[.bool g5a, .slice A5a m5a c5a, .int .i64 e5a, .bool g5b, .slice A5b m5b c5b, .int .i64 e5b] 34)) A5b m5b c5b s5b) := HHi.out.below ba
  replace HS := Lib.hid (HS.out.trans (ba.mono HS.out.size))
  clear ba
  have HIi : Hid (Ib (w5.alloc (.cells #[.bool g5a, .slice A5a m5a c5a, .int .i64 e5a, .bool g5b, .slice A5b m5b c5b, .int .i64 e5b] 34)) w5.heap.size g5a A5a m5a c5a e5a g5b A5b m5b c5b e5b) := Ib.new w5 g5a A5a m5a c5a e5a g5b A5b m5b c5b e5b
  clear HW
  have HNb_0 := HNb.out.c0
  have HNb_1 := HNb.out.c1
  have HNb_2 := HNb.out.c2
  have m0 : mn ≠ 0 := fun h => Ht.out.1 (by rw [← HNd.out.2.2]; exact (dig_nil HNd.out.1 HNd.out.2.1).1 h)
  have dm : decide ((0 : Int) < (mn : Int)) = true := decide_eq_true (by omega)
  have dmn : decide (0 < mn) = true := decide_eq_true (by omega)
  clear m0
  obtain ⟨tn, htn⟩ : ∃ t, rtop nV nE = t := ⟨_, rfl⟩
  have htn' : (blen nV : Int) - 1 + nE = tn := htn
  have dtn : decide ((9 : Int) < tn) = false := decide_eq_false (by have := Ht.out.2; omega)
  have H6 := Lib.hid (rtop_l tn ng An mn cn dn nE (w5.alloc (.cells #[.bool g5a, .slice A5a m5a c5a, .int .i64 e5a, .bool g5b, .slice A5b m5b c5b, .int .i64 e5b] 34)) HNd.out.1 HNd.out.2.1 (by omega) (by omega) (by omega) (by rw [HNd.out.2.2]; exact htn))
  clear htn htn'
  go_wp2_with fail
  refine H6.out.mono ?_
  rintro e w6 ⟨rfl, hB⟩
  clear HNb_0 HNb_1 HNb_2
  replace HT : Hid (Tab w6) := HT.out.below hB
  replace HXl : Hid (Lim w6 A n c xs) := HXl.out.below hB
  replace HX : Hid (Bd w6 w.heap.size 24 g A n c e0) := HX.out.below hB
  replace HNd : Hid (Dig w6 An mn cn dn ∧ D.Bare dn ∧ D.val dn = nV) := ⟨HNd.out.1.below hB, HNd.out.2⟩
  replace HNb : Hid (Bd w6 w2.heap.size 28 ng An mn cn nE) := HNb.out.below hB
  replace HLi : Hid (Lim w6 A5a m5a c5a s5a) := HLi.out.below hB
  replace HHi : Hid (Lim w6 A5b m5b c5b s5b) := HHi.out.below hB
  replace HIi : Hid (Ib w6 w5.heap.size g5a A5a m5a c5a e5a g5b A5b m5b c5b e5b) := HIi.out.below hB
  replace HS := Lib.hid (HS.out.trans (hB.mono HS.out.size))
  clear hB H6
  obtain ⟨m, hm⟩ : ∃ m, z + 80 = m := ⟨_, rfl⟩
  have em : (z : Int) + 80 = (m : Int) := by omega
  have HZn : Hid (sz nV nE ≤ 1024 * ub) := top_sz (d := ⟨ng, nV, nE⟩) HM.out.2.2 (by intro h; exact Ht.out.2)
  have hE3 : nE ≤ 10 := by have h1 := Ht.out.2; have h2 := blen_pos Ht.out.1; omega
  have HNb_0 := HNb.out.c0
  have HNb_1 := HNb.out.c1
  have HNb_2 := HNb.out.c2
  have H8 := Lib.hid (pexp_l ng An mn cn dn nE m w6 HNd.out.1 HNd.out.2.1 (by omega) hE3 (by rw [HNd.out.2.2]; exact HZn.out) (by omega) (by omega))
  go_wp2_with fail
  refine H8.out.mono ?_
  rintro e w7 ⟨kx, Z, hD, Ax, mx, cx, dx, rfl, hmx, hlx, hbx, hvx, hB⟩
  clear HNb_0 HNb_1 HNb_2
  replace HT : Hid (Tab w7) := HT.out.below hB
  replace HXl : Hid (Lim w7 A n c xs) := HXl.out.below hB
  replace HX : Hid (Bd w7 w.heap.size 24 g A n c e0) := HX.out.below hB
  replace HNd : Hid (Dig w7 An mn cn dn ∧ D.Bare dn ∧ D.val dn = nV) := ⟨HNd.out.1.below hB, HNd.out.2⟩
  replace HNb : Hid (Bd w7 w2.heap.size 28 ng An mn cn nE) := HNb.out.below hB
  replace HLi : Hid (Lim w7 A5a m5a c5a s5a) := HLi.out.below hB
  replace HHi : Hid (Lim w7 A5b m5b c5b s5b) := HHi.out.below hB
  replace HIi : Hid (Ib w7 w5.heap.size g5a A5a m5a c5a e5a g5b A5b m5b c5b e5b) := HIi.out.below hB
  replace HS := Lib.hid (HS.out.trans (hB.mono HS.out.size))
  rw [HNd.out.2.2] at hD
  obtain ⟨⟨tw1, tw2⟩, tw3, tw4, tw5, tw6⟩ := tell_words (by omega) (by omega) HM.out.2.2 HZn.out HM.out.2.1 HE.out (by rw [hm]; exact hD)
  rw [hm] at tw1 tw2 tw5 tw6
  dsimp only at hvx
  have HXd : Hid (Dig w7 Ax mx cx dx ∧ D.Bare dx ∧ D.val dx = Z) := ⟨hlx, hbx, hvx⟩
  obtain ⟨xE, hxE⟩ : ∃ x : Int, kx - (m : Int) = x := ⟨_, rfl⟩
  obtain ⟨t, ht⟩ : ∃ t, rtop Z xE = t := ⟨_, rfl⟩
  have ht2 : (blen Z : Int) - 1 + xE = t := ht
  rw [hxE] at tw1 tw2 tw5 tw6
  rw [ht2] at tw1 tw2 tw5 tw6
  rw [hxE]
  obtain ⟨fE, hfE⟩ : ∃ x : Int, t - (m : Int) = x := ⟨_, rfl⟩
  rw [hfE] at tw1 tw2
  have HTw : Hid (dw g5a (val s5a) e5a ≤ dw false Z xE + dw false 1099511627776 fE ∧ dw false Z xE + dw true 1099511627776 fE ≤ dw g5b (val s5b) e5b) := ⟨tw1, tw2⟩
  have HTx : Hid ((Z ≠ 0 ∧ rtop Z xE = t) ∧ t - (m : Int) = fE) := ⟨⟨tw4, ht⟩, hfE⟩
  have hx1 : -4000 ≤ xE := by omega
  have hx2 : xE ≤ 4000 := by omega
  have ht1 : -20000 ≤ t := by omega
  have ht3 : t ≤ 20000 := by omega
  have hf1 : xE ≤ fE := by omega
  have hf2 : fE ≤ xE + 16 := by omega
  clear hlx hbx hvx hB H8 hD tw1 tw2 tw3 tw4 tw5 tw6 ht ht2 hxE hfE hm
  have ba := below1 w7 (.cells #[.bool false, .slice Ax mx cx, .int .i64 xE] 28)
  replace HT : Hid (Tab (w7.alloc (.cells #[.bool false, .slice Ax mx cx, .int .i64 xE] 28))) := HT.out.below ba
  replace HXl : Hid (Lim (w7.alloc (.cells #[.bool false, .slice Ax mx cx, .int .i64 xE] 28)) A n c xs) := HXl.out.below ba
  replace HX : Hid (Bd (w7.alloc (.cells #[.bool false, .slice Ax mx cx, .int .i64 xE] 28)) w.heap.size 24 g A n c e0) := HX.out.below ba
  replace HNd : Hid (Dig (w7.alloc (.cells #[.bool false, .slice Ax mx cx, .int .i64 xE] 28)) An mn cn dn ∧ D.Bare dn ∧ D.val dn = nV) := ⟨HNd.out.1.below ba, HNd.out.2⟩
  replace HNb : Hid (Bd (w7.alloc (.cells #[.bool false, .slice Ax mx cx, .int .i64 xE] 28)) w2.heap.size 28 ng An mn cn nE) := HNb.out.below ba
  replace HLi : Hid (Lim (w7.alloc (.cells #[.bool false, .slice Ax mx cx, .int .i64 xE] 28)) A5a m5a c5a s5a) := HLi.out.below ba
  replace HHi : Hid (Lim (w7.alloc (.cells #[.bool false, .slice Ax mx cx, .int .i64 xE] 28)) A5b m5b c5b s5b) := HHi.out.below ba
  replace HIi : Hid (Ib (w7.alloc (.cells #[.bool false, .slice Ax mx cx, .int .i64 xE] 28)) w5.heap.size g5a A5a m5a c5a e5a g5b A5b m5b c5b e5b) := HIi.out.below ba
  replace HXd : Hid (Dig (w7.alloc (.cells #[.bool false, .slice Ax mx cx, .int .i64 xE] 28)) Ax mx cx dx ∧ D.Bare dx ∧ D.val dx = Z) := ⟨HXd.out.1.below ba, HXd.out.2⟩
  replace HS := Lib.hid (HS.out.trans (ba.mono HS.out.size))
  clear ba
  have HXb : Hid (Bd (w7.alloc (.cells #[.bool false, .slice Ax mx cx, .int .i64 xE] 28)) w7.heap.size 28 false Ax mx cx xE) := Bd.new w7 28 false Ax mx cx xE
  have HXb_0 := HXb.out.c0
  have HXb_1 := HXb.out.c1
  have HXb_2 := HXb.out.c2
  have H9 := Lib.hid (rtop_l t false Ax mx cx dx xE (w7.alloc (.cells #[.bool false, .slice Ax mx cx, .int .i64 xE] 28)) HXd.out.1 HXd.out.2.1 (by omega) (by omega) (by omega) (by rw [HXd.out.2.2]; exact HTx.out.1.2))
  go_wp2_with fail
  refine H9.out.mono ?_
  rintro e w8 ⟨rfl, hB⟩
  clear HXb_0 HXb_1 HXb_2
  replace HT : Hid (Tab w8) := HT.out.below hB
  replace HXl : Hid (Lim w8 A n c xs) := HXl.out.below hB
  replace HX : Hid (Bd w8 w.heap.size 24 g A n c e0) := HX.out.below hB
  replace HNd : Hid (Dig w8 An mn cn dn ∧ D.Bare dn ∧ D.val dn = nV) := ⟨HNd.out.1.below hB, HNd.out.2⟩
  replace HNb : Hid (Bd w8 w2.heap.size 28 ng An mn cn nE) := HNb.out.below hB
  replace HLi : Hid (Lim w8 A5a m5a c5a s5a) := HLi.out.below hB
  replace HHi : Hid (Lim w8 A5b m5b c5b s5b) := HHi.out.below hB
  replace HIi : Hid (Ib w8 w5.heap.size g5a A5a m5a c5a e5a g5b A5b m5b c5b e5b) := HIi.out.below hB
  replace HXd : Hid (Dig w8 Ax mx cx dx ∧ D.Bare dx ∧ D.val dx = Z) := ⟨HXd.out.1.below hB, HXd.out.2⟩
  replace HXb : Hid (Bd w8 w7.heap.size 28 false Ax mx cx xE) := HXb.out.below hB
  replace HS := Lib.hid (HS.out.trans (hB.mono HS.out.size))
  clear hB H9
  have HX_0 := HX.out.c0
  have HX_1 := HX.out.c1
  have HX_2 := HX.out.c2
  have H10 := Lib.hid (split_l g A n c xs e0 g A n c xs e0 (z : Int) w8 HXl.out HXl.out (by omega) (by omega) HT.out (by omega))
  go_wp2_with fail
  refine H10.out.mono ?_
  rintro e w9 ⟨k0, A3, m3, c3, s3, A4, m4, c4, s4, r, rfl, hm3, hm4, hl3, hl4, hB, hq⟩
  clear HX_0 HX_1 HX_2
  replace HT : Hid (Tab w9) := HT.out.below hB
  replace HXl : Hid (Lim w9 A n c xs) := HXl.out.below hB
  replace HX : Hid (Bd w9 w.heap.size 24 g A n c e0) := HX.out.below hB
  replace HNd : Hid (Dig w9 An mn cn dn ∧ D.Bare dn ∧ D.val dn = nV) := ⟨HNd.out.1.below hB, HNd.out.2⟩
  replace HNb : Hid (Bd w9 w2.heap.size 28 ng An mn cn nE) := HNb.out.below hB
  replace HLi : Hid (Lim w9 A5a m5a c5a s5a) := HLi.out.below hB
  replace HHi : Hid (Lim w9 A5b m5b c5b s5b) := HHi.out.below hB
  replace HIi : Hid (Ib w9 w5.heap.size g5a A5a m5a c5a e5a g5b A5b m5b c5b e5b) := HIi.out.below hB
  replace HXd : Hid (Dig w9 Ax mx cx dx ∧ D.Bare dx ∧ D.val dx = Z) := ⟨HXd.out.1.below hB, HXd.out.2⟩
  replace HXb : Hid (Bd w9 w7.heap.size 28 false Ax mx cx xE) := HXb.out.below hB
  replace HS := Lib.hid (HS.out.trans (hB.mono HS.out.size))
  obtain ⟨hr0, hk0⟩ := split_same HM.out.1 HE.out ⟨HM.out.1, HM.out.1, HM.out.2.1, HM.out.2.1, Int.le_refl _, by omega, by omega⟩ hq
  subst hr0 hk0
  clear hm3 hm4 hl3 hl4 hB hq H10
  obtain ⟨Lo, Hi, j, u1, u2, l1, l2, j1, j2, o1, o2, b1, b2, k9⟩ := tell_ends (by omega) (by omega) HZn.out HE.out
  obtain ⟨K, hK⟩ : ∃ K, k0.natAbs = K := ⟨_, rfl⟩
  have emx : max k0 (-k0) = (K : Int) := by omega
  have wn : IntKind.i64.wrap (-k0) = -k0 := by rw [IntKind.wrap_i64]; omega
  obtain ⟨z8, h8⟩ : ∃ x, 8 * z = x := ⟨_, rfl⟩
  have e8 : (8 : Int) * (z : Int) = (z8 : Int) := by omega
  obtain ⟨y8, hy8⟩ : ∃ x, z8 + 131 = x := ⟨_, rfl⟩
  have ey8 : (z8 : Int) + 131 = (y8 : Int) := by omega
  obtain ⟨K3, hK3⟩ : ∃ x, 3 * K = x := ⟨_, rfl⟩
  have eK3 : (3 : Int) * (K : Int) = (K3 : Int) := by omega
  obtain ⟨z2, h2⟩ : ∃ x, 2 * z = x := ⟨_, rfl⟩
  have e2 : (2 : Int) * (z : Int) = (z2 : Int) := by omega
  obtain ⟨y2, hy2⟩ : ∃ x, z2 + 128 = x := ⟨_, rfl⟩
  have ey2 : (z2 : Int) + 128 = (y2 : Int) := by omega
  have r8 : y8 ≤ 2531 := by omega
  have r3 : K3 ≤ 9228 := by omega
  have r2 : y2 ≤ 728 := by omega
  have r0 : K ≤ 3076 := by omega
  have rz8 : z8 ≤ 2400 := by omega
  have rz2 : z2 ≤ 600 := by omega
  obtain ⟨M, hM⟩ : ∃ x, K3 * y2 = x := ⟨_, rfl⟩
  have eM : (K3 : Int) * (y2 : Int) = (M : Int) := by rw [← hM, Int.natCast_mul]
  have rM : M ≤ 9228 * 728 := by rw [← hM]; exact Nat.mul_le_mul r3 r2
  obtain ⟨N, hN⟩ : ∃ x, y8 + M = x := ⟨_, rfl⟩
  have eN : (y8 : Int) + (M : Int) = (N : Int) := by omega
  have rN : N ≤ 7000000 := by omega
  have wi64z8 : IntKind.i64.wrap (z8 : Int) = (z8 : Int) := by rw [IntKind.wrap_i64]; omega
  have wi64y8 : IntKind.i64.wrap (y8 : Int) = (y8 : Int) := by rw [IntKind.wrap_i64]; omega
  have wu64y8 : IntKind.u64.wrap (y8 : Int) = (y8 : Int) := by rw [IntKind.wrap_u64]; omega
  have wu64K : IntKind.u64.wrap (K : Int) = (K : Int) := by rw [IntKind.wrap_u64]; omega
  have wu64K3 : IntKind.u64.wrap (K3 : Int) = (K3 : Int) := by rw [IntKind.wrap_u64]; omega
  have wi64z2 : IntKind.i64.wrap (z2 : Int) = (z2 : Int) := by rw [IntKind.wrap_i64]; omega
  have wi64y2 : IntKind.i64.wrap (y2 : Int) = (y2 : Int) := by rw [IntKind.wrap_i64]; omega
  have wu64y2 : IntKind.u64.wrap (y2 : Int) = (y2 : Int) := by rw [IntKind.wrap_u64]; omega
  have wu64M : IntKind.u64.wrap (M : Int) = (M : Int) := by rw [IntKind.wrap_u64]; omega
  have wu64N : IntKind.u64.wrap (N : Int) = (N : Int) := by rw [IntKind.wrap_u64]; omega
  obtain ⟨qq, hqq⟩ : ∃ x : Int, (z : Int) - k0 = x := ⟨_, rfl⟩
  have wq : IntKind.i64.wrap ((z : Int) - k0) = qq := by rw [hqq, IntKind.wrap_i64]; omega
  have eNN : 8 * z + 131 + 3 * k0.natAbs * (2 * z + 128) = N := by rw [hK, h8, hK3, h2, hy8, hy2, hM, hN]
  rw [eNN] at o2
  rw [hqq] at j1 j2
  have HQ : Hid (Un 9000 Lo ⟨g5a, val s5a, e5a⟩ ∧ Un 9000 Hi ⟨g5b, val s5b, e5b⟩ ∧ Lo.natAbs < 2 ^ (9000 + 4000) ∧ Hi.natAbs < 2 ^ (9000 + 4000)) := ⟨u1, u2, l1, l2⟩
  have HJ : Hid (((9000 : Nat) : Int) = qq + (j : Int) ∧ -9000 ≤ qq ∧ Lo ≤ Hi ∧ Hi - Lo ≤ (N : Int) * ((2 ^ j : Nat) : Int)) := ⟨j1, j2, o1, o2⟩
  have hs_a : m5a ≤ 160 := Nat.le_trans (bare_le HLi.out HBi.out.1 b1) (by decide)
  have hs_b : m5b ≤ 160 := Nat.le_trans (bare_le HHi.out HBi.out.2 b2) (by decide)
  clear u1 u2 l1 l2 j1 j2 o1 o2 b1 b2 k9 hK h8 hy8 hK3 h2 hy2 hM hN hqq eNN HM HE HZn Ht
  clear HX HXl HNd HNb
  have cur := Lib.hid (below_drew w9)
  have KO : Hid (∀ u, Below w9.heap.size w9 u → Calls Tryz.prog 14 #[.int .i64 t, .int .i64 (m : Int)] u (NTold u ⟨false, 1099511627776, fE⟩ 3)) := fun u _ => by have h := peoff_l t m u ht1 ht3 (by omega); rw [HTx.out.2] at h; exact h
  have KH : Hid (∀ u B r b fs, Below w9.heap.size w9 u → Dig u B r b fs → D.Bare fs → D.val fs = 1099511627776 → r ≤ 3 → Calls Tryz.prog 13 #[.agg #[.bool g5a, .slice A5a m5a c5a, .int .i64 e5a, .bool g5b, .slice A5b m5b c5b, .int .i64 e5b], .agg #[.bool false, .slice Ax mx cx, .int .i64 xE], .agg #[.bool false, .slice B r b, .int .i64 fE]] u fun e w' => e = .returned (.bool true) ∧ Below u.heap.size u w') := fun u B r b fs hu a1 a2 a3 a4 =>
    eholds_l g5a A5a m5a c5a s5a e5a g5b A5b m5b c5b s5b e5b false Ax mx cx dx xE false B r b fs fE 9000 Lo Hi u (HLi.out.below hu) (HHi.out.below hu) (HXd.out.1.below hu) a1 HXd.out.2.1 a2 hs_a hs_b (by omega) (by omega) (by omega) (by omega) hf1 hf2 (by rw [HXd.out.2.2]; exact HTx.out.1.1) (by decide) HQ.out.1 HQ.out.2.1 HQ.out.2.2.1 HQ.out.2.2.2 (by rw [HXd.out.2.2, a3]; exact HTw.out.1) (by rw [HXd.out.2.2, a3]; exact HTw.out.2)
  have KT : Hid (∀ u, Below w9.heap.size w9 u → Calls Tryz.prog 15 #[.agg #[.bool g5a, .slice A5a m5a c5a, .int .i64 e5a, .bool g5b, .slice A5b m5b c5b, .int .i64 e5b], .int .u64 (N : Int), .int .i64 qq] u fun e w' => e = .returned (.bool true) ∧ Below u.heap.size u w') := fun u hu =>
    ethin_l g5a A5a m5a c5a s5a e5a g5b A5b m5b c5b s5b e5b N 9000 j qq Lo Hi u (HLi.out.below hu) (HHi.out.below hu) (by omega) (by omega) (HT.out.below hu) (by decide) (by omega) HQ.out.1 HQ.out.2.1 HQ.out.2.2.1 HQ.out.2.2.2 HJ.out.1 HJ.out.2.1 HJ.out.2.2.1 HJ.out.2.2.2
  have HW : Hid (∀ u, Below w9.heap.size w9 u → u.cell? ⟨w5.heap.size, 0, none⟩ = some (.bool g5a) ∧ u.cell? ⟨w5.heap.size, 1, none⟩ = some (.slice A5a m5a c5a) ∧ u.cell? ⟨w5.heap.size, 2, none⟩ = some (.int .i64 e5a) ∧ u.cell? ⟨w5.heap.size, 3, none⟩ = some (.bool g5b) ∧ u.cell? ⟨w5.heap.size, 4, none⟩ = some (.slice A5b m5b c5b) ∧ u.cell? ⟨w5.heap.size, 5, none⟩ = some (.int .i64 e5b) ∧ u.cell? ⟨w7.heap.size, 0, none⟩ = some (.bool false) ∧ u.cell? ⟨w7.heap.size, 1, none⟩ = some (.slice Ax mx cx) ∧ u.cell? ⟨w7.heap.size, 2, none⟩ = some (.int .i64 xE)) := fun u hu => ⟨(HIi.out.below hu).x0, (HIi.out.below hu).x1, (HIi.out.below hu).x2, (HIi.out.below hu).x3, (HIi.out.below hu).x4, (HIi.out.below hu).x5, (HXb.out.below hu).c0, (HXb.out.below hu).c1, (HXb.out.below hu).c2⟩
  have HSd := Lib.hid HS.out
  clear HS HO HQ HJ HTw HTx HBi hE1 hE2 hE3 hx1 hx2 hf1 hf2 hs_a hs_b HT HLi HHi HIi HXd HXb
  go_wp2_with fail
  go_region_held3 (fun u => u.cell? ⟨w5.heap.size, 0, none⟩ = some (.bool g5a) ∧ u.cell? ⟨w5.heap.size, 1, none⟩ = some (.slice A5a m5a c5a) ∧ u.cell? ⟨w5.heap.size, 2, none⟩ = some (.int .i64 e5a) ∧ u.cell? ⟨w5.heap.size, 3, none⟩ = some (.bool g5b) ∧ u.cell? ⟨w5.heap.size, 4, none⟩ = some (.slice A5b m5b c5b) ∧ u.cell? ⟨w5.heap.size, 5, none⟩ = some (.int .i64 e5b) ∧ u.cell? ⟨w7.heap.size, 0, none⟩ = some (.bool false) ∧ u.cell? ⟨w7.heap.size, 1, none⟩ = some (.slice Ax mx cx) ∧ u.cell? ⟨w7.heap.size, 2, none⟩ = some (.int .i64 xE)) (with_reducible exact HW.out _ cur.out)
    (first
      | (go_at_call 14; (with_reducible refine (KO.out _ cur.out).mono ?_); rintro e ud ⟨Af, mf, cf, df, rfl, hmf, hlf, hbf, hvf, hB⟩; (with_reducible (replace cur := Lib.hid (cur.out.trans (hB.mono (cur.out.size))))); clear hB)
      | (go_at_call 13; (with_reducible refine (KH.out _ Af mf cf df cur.out hlf hbf hvf hmf).mono ?_); rintro e ue ⟨rfl, hB⟩; (with_reducible (replace cur := Lib.hid (cur.out.trans (hB.mono (cur.out.size))))); clear hB hlf hbf hvf hmf)
      | (go_at_call 15; (with_reducible refine (KT.out _ cur.out).mono ?_); rintro e uf ⟨rfl, hB⟩; (with_reducible (replace cur := Lib.hid (cur.out.trans (hB.mono (cur.out.size))))); clear hB))
  all_goals (
    have Hfin := Lib.hid (HSd.out.trans (cur.out.mono HSd.out.size))
    clear KO KH KT HW cur HSd
    go_wp2
    go_ret
    exact ⟨rfl, Hfin.out⟩)

end Go.Proofs.YtijhdlkfihjbiaaGreatDoor
