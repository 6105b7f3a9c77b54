/- The walk of the law LogsTell where the list is too long, or the document tells no logarithm (written by law_ltell.py). -/
import Derived.Test.YtpbggonfdaealaaGreatDoorLgTellM
namespace Go.Proofs.YtpbggonfdaealaaGreatDoor
open Go.RowKit

set_option maxHeartbeats 1000000 in
set_option maxRecDepth 20000 in
theorem ltell_long1 (g : Bool) (A : Option Addr) (n c : Nat) (xs : List Nat) (e0 : Int) (s : Int) (w : World) (hT : Tab w) (_hA : Lim w A n c xs) (hl : 70 < n) :
    Calls Tryz.prog 3 #[.agg #[.bool g, .slice A n c, .int .i64 e0], .int .i64 s] w fun e w' => e = .returned (.bool true) ∧ Below w.heap.size w w' := by
  have a1 := below1 w (.cells #[.bool g, .slice A n c, .int .i64 e0] 24)
  have H1 := Lib.hid (lalive_any _ (hT.below a1))
  have HX := Lib.hid (Bd.new w 24 g A n c e0)
  have HS := Lib.hid a1
  have l1 : decide ((70 : Int) < (n : Int)) = true := decide_eq_true (by omega)
  have l1n : decide (70 < n) = true := decide_eq_true (by omega)
  clear hT a1 hl
  go_enter Tryz.func3, Tryz.ntmps3
  go_wp2_with fail
  refine H1.out.mono ?_
  rintro e w1 ⟨rfl, hB1⟩
  have x1 := (HX.out.below hB1).c1
  have Hfin := Lib.hid (HS.out.trans (hB1.mono HS.out.size))
  clear hB1 H1 HX HS
  go_wp2
  go_ret
  exact ⟨rfl, Hfin.out⟩

set_option maxHeartbeats 1000000 in
set_option maxRecDepth 20000 in
theorem ltell_long2 (g : Bool) (A : Option Addr) (n c : Nat) (xs : List Nat) (e0 : Int) (s : Int) (w : World) (hT : Tab w) (_hA : Lim w A n c xs) (hl : n ≤ 70 ∧ 12 < n ∧ 100 < s) :
    Calls Tryz.prog 3 #[.agg #[.bool g, .slice A n c, .int .i64 e0], .int .i64 s] w fun e w' => e = .returned (.bool true) ∧ Below w.heap.size w w' := by
  have a1 := below1 w (.cells #[.bool g, .slice A n c, .int .i64 e0] 24)
  have H1 := Lib.hid (lalive_any _ (hT.below a1))
  have HX := Lib.hid (Bd.new w 24 g A n c e0)
  have HS := Lib.hid a1
  have l1 : decide ((70 : Int) < (n : Int)) = false := decide_eq_false (by omega)
  have l1n : decide (70 < n) = false := decide_eq_false (by omega)
  have l2 : decide ((12 : Int) < (n : Int)) = true := decide_eq_true (by omega)
  have l2n : decide (12 < n) = true := decide_eq_true (by omega)
  have l3 : decide ((100 : Int) < s) = true := decide_eq_true (by omega)
  clear hT a1 hl
  go_enter Tryz.func3, Tryz.ntmps3
  go_wp2_with fail
  refine H1.out.mono ?_
  rintro e w1 ⟨rfl, hB1⟩
  have x1 := (HX.out.below hB1).c1
  have Hfin := Lib.hid (HS.out.trans (hB1.mono HS.out.size))
  clear hB1 H1 HX HS
  go_wp2
  go_ret
  exact ⟨rfl, Hfin.out⟩

set_option maxHeartbeats 8000000 in
set_option maxRecDepth 20000 in
theorem ltell_no1a (g : Bool) (A : Option Addr) (n c : Nat) (xs : List Nat) (e0 : Int) (s : Int) (w : World) (hT : Tab w) (hA : Lim w A n c xs) (hl : n ≤ 12) (hs1 : -9223372036854775808 ≤ s) (hs2 : s ≤ 9223372036854775807) (hr : ¬ RightP (nO g (val xs) e0).neg (nO g (val xs) e0).V (nO g (val xs) e0).e) :
    Calls Tryz.prog 3 #[.agg #[.bool g, .slice A n c, .int .i64 e0], .int .i64 s] w fun e w' => e = .returned (.bool true) ∧ Below w.heap.size w w' := by
  obtain ⟨⟨ng, nV, nE⟩, hO⟩ : ∃ o, nO g (val xs) e0 = o := ⟨_, rfl⟩
  have hRL := right_log hO
  dsimp only at hRL
  have a1 := below1 w (.cells #[.bool g, .slice A n c, .int .i64 e0] 24)
  have HS := Lib.hid a1
  have HT := Lib.hid (hT.below a1)
  have HXl := Lib.hid (hA.below a1)
  have HX := Lib.hid (Bd.new w 24 g A n c e0)
  have H1 := Lib.hid (lalive_any _ HT.out)
  have HO := Lib.hid hO
  have l1 : decide ((70 : Int) < (n : Int)) = false := decide_eq_false (by omega)
  have l1n : decide (70 < n) = false := decide_eq_false (by omega)
  have l2 : decide ((12 : Int) < (n : Int)) = false := decide_eq_false (by omega)
  have l2n : decide (12 < n) = false := decide_eq_false (by omega)
  rw [hO] at hr
  dsimp only at hr
  have HN : Hid (¬ ((∃ d, mk g (val xs) e0 = some d ∧ LogD d) ∧ 8 ≤ s ∧ s ≤ 9000)) := fun h => hRL.2 hr h.1
  have HR : Hid (decide (RightP ng nV nE) = false) := decide_eq_false hr
  clear hT hA a1 hO hRL hr
  go_enter Tryz.func3, Tryz.ntmps3
  go_wp2_with fail
  refine H1.out.mono ?_
  rintro e w1 ⟨rfl, hB⟩
  replace HT : Hid (Tab w1) := HT.out.below hB
  replace HXl : Hid (Lim w1 A n c xs) := HXl.out.below hB
  replace HX : Hid (Bd w1 w.heap.size 24 g A n c e0) := HX.out.below hB
  replace HS := Lib.hid (HS.out.trans (hB.mono HS.out.size))
  clear hB H1
  have HX_0 := HX.out.c0
  have HX_1 := HX.out.c1
  have HX_2 := HX.out.c2
  have H2 := rof_any g A n c xs e0 w1 HXl.out (by omega)
  rw [HO.out] at H2
  replace H2 := Lib.hid H2
  go_wp2_with fail
  refine H2.out.mono ?_
  rintro e w2 ⟨An, mn, cn, dn, rfl, hmn, hln, hbn, hvn, hB⟩
  clear HX_0 HX_1 HX_2
  replace HT : Hid (Tab w2) := HT.out.below hB
  replace HXl : Hid (Lim w2 A n c xs) := HXl.out.below hB
  replace HX : Hid (Bd w2 w.heap.size 24 g A n c e0) := HX.out.below hB
  replace HS := Lib.hid (HS.out.trans (hB.mono HS.out.size))
  dsimp only at hvn
  have HNd : Hid (Dig w2 An mn cn dn ∧ D.Bare dn ∧ D.val dn = nV) := ⟨hln, hbn, hvn⟩
  clear hln hbn hvn hB H2
  have ba := below1 w2 (.cells #[.bool ng, .slice An mn cn, .int .i64 nE] 28)
  replace HT : Hid (Tab (w2.alloc (.cells #[.bool ng, .slice An mn cn, .int .i64 nE] 28))) := HT.out.below ba
  replace HXl : Hid (Lim (w2.alloc (.cells #[.bool ng, .slice An mn cn, .int .i64 nE] 28)) A n c xs) := HXl.out.below ba
  replace HX : Hid (Bd (w2.alloc (.cells #[.bool ng, .slice An mn cn, .int .i64 nE] 28)) w.heap.size 24 g A n c e0) := HX.out.below ba
  replace HNd : Hid (Dig (w2.alloc (.cells #[.bool ng, .slice An mn cn, .int .i64 nE] 28)) An mn cn dn ∧ D.Bare dn ∧ D.val dn = nV) := ⟨HNd.out.1.below ba, HNd.out.2⟩
  replace HS := Lib.hid (HS.out.trans (ba.mono HS.out.size))
  clear ba
  have HNb : Hid (Bd (w2.alloc (.cells #[.bool ng, .slice An mn cn, .int .i64 nE] 28)) w2.heap.size 28 ng An mn cn nE) := Bd.new w2 28 ng An mn cn nE
  have HX_0 := HX.out.c0
  have HX_1 := HX.out.c1
  have HX_2 := HX.out.c2
  have H3 := Lib.hid (log_lg g A n c xs e0 s (w2.alloc (.cells #[.bool ng, .slice An mn cn, .int .i64 nE] 28)) HXl.out (by omega) HT.out (by omega) (by omega))
  go_wp2_with fail
  refine H3.out.mono ?_
  rintro e w3 ⟨gp, Ap, mp, cp, sp, ep, gq, Aq, mq, cq, sq, eq, r, rfl, hmp, hmq, hlp, hlq, hbp, hbq, hB, hq⟩
  clear HX_0 HX_1 HX_2
  replace HT : Hid (Tab w3) := HT.out.below hB
  replace HXl : Hid (Lim w3 A n c xs) := HXl.out.below hB
  replace HX : Hid (Bd w3 w.heap.size 24 g A n c e0) := HX.out.below hB
  replace HNd : Hid (Dig w3 An mn cn dn ∧ D.Bare dn ∧ D.val dn = nV) := ⟨HNd.out.1.below hB, HNd.out.2⟩
  replace HNb : Hid (Bd w3 w2.heap.size 28 ng An mn cn nE) := HNb.out.below hB
  replace HS := Lib.hid (HS.out.trans (hB.mono HS.out.size))
  obtain ⟨rfl, rfl, rfl⟩ := logp_no hq HN.out
  clear hmp hmq hlp hlq hbp hbq hB hq H3
  have ba := below1 w3 (.cells #[.bool gp, .slice Ap 0 cp, .int .i64 ep, .bool gq, .slice Aq 0 cq, .int .i64 eq] 32)
  replace HT : Hid (Tab (w3.alloc (.cells #[.bool gp, .slice Ap 0 cp, .int .i64 ep, .bool gq, .slice Aq 0 cq, .int .i64 eq] 32))) := HT.out.below ba
  replace HXl : Hid (Lim (w3.alloc (.cells #[.bool gp, .slice Ap 0 cp, .int .i64 ep, .bool gq, .slice Aq 0 cq, .int .i64 eq] 32)) A n c xs) := HXl.out.below ba
  replace HX : Hid (Bd (w3.alloc (.cells #[.bool gp, .slice Ap 0 cp, .int .i64 ep, .bool gq, .slice Aq 0 cq, .int .i64 eq] 32)) w.heap.size 24 g A n c e0) := HX.out.below ba
  replace HNd : Hid (Dig (w3.alloc (.cells #[.bool gp, .slice Ap 0 cp, .int .i64 ep, .bool gq, .slice Aq 0 cq, .int .i64 eq] 32)) An mn cn dn ∧ D.Bare dn ∧ D.val dn = nV) := ⟨HNd.out.1.below ba, HNd.out.2⟩
  replace HNb : Hid (Bd (w3.alloc (.cells #[.bool gp, .slice Ap 0 cp, .int .i64 ep, .bool gq, .slice Aq 0 cq, .int .i64 eq] 32)) w2.heap.size 28 ng An mn cn nE) := HNb.out.below ba
  replace HS := Lib.hid (HS.out.trans (ba.mono HS.out.size))
  clear ba
  have HI : Hid (Ib (w3.alloc (.cells #[.bool gp, .slice Ap 0 cp, .int .i64 ep, .bool gq, .slice Aq 0 cq, .int .i64 eq] 32)) w3.heap.size gp Ap 0 cp ep gq Aq 0 cq eq) := Ib.new w3 gp Ap 0 cp ep gq Aq 0 cq eq
  have HNb_0 := HNb.out.c0
  have HNb_1 := HNb.out.c1
  have HNb_2 := HNb.out.c2
  have H4 := Lib.hid (rright_l false ng An mn cn dn nE (w3.alloc (.cells #[.bool gp, .slice Ap 0 cp, .int .i64 ep, .bool gq, .slice Aq 0 cq, .int .i64 eq] 32)) HNd.out.1 HNd.out.2.1 (by omega) (by rw [HNd.out.2.2]; exact HR.out))
  go_wp2_with fail
  refine H4.out.mono ?_
  rintro e w4 ⟨rfl, hB⟩
  clear HNb_0 HNb_1 HNb_2
  replace HT : Hid (Tab w4) := HT.out.below hB
  replace HXl : Hid (Lim w4 A n c xs) := HXl.out.below hB
  replace HX : Hid (Bd w4 w.heap.size 24 g A n c e0) := HX.out.below hB
  replace HNd : Hid (Dig w4 An mn cn dn ∧ D.Bare dn ∧ D.val dn = nV) := ⟨HNd.out.1.below hB, HNd.out.2⟩
  replace HNb : Hid (Bd w4 w2.heap.size 28 ng An mn cn nE) := HNb.out.below hB
  replace HI : Hid (Ib w4 w3.heap.size gp Ap 0 cp ep gq Aq 0 cq eq) := HI.out.below hB
  replace HS := Lib.hid (HS.out.trans (hB.mono HS.out.size))
  clear hB H4
  have HI_0 := HI.out.x0
  have HI_1 := HI.out.x1
  have HI_2 := HI.out.x2
  have HI_3 := HI.out.x3
  have HI_4 := HI.out.x4
  have HI_5 := HI.out.x5
  have Hfin := Lib.hid HS.out
  clear HS HO HN HR HT HXl HX HNd HNb HI
  go_wp2
  go_ret
  exact ⟨rfl, Hfin.out⟩

set_option maxHeartbeats 8000000 in
set_option maxRecDepth 20000 in
theorem ltell_no2a (g : Bool) (A : Option Addr) (n c : Nat) (xs : List Nat) (e0 : Int) (s : Int) (w : World) (hT : Tab w) (hA : Lim w A n c xs) (hl : n ≤ 12) (hs1 : -9223372036854775808 ≤ s) (hs2 : s ≤ 9223372036854775807) (hr : RightP (nO g (val xs) e0).neg (nO g (val xs) e0).V (nO g (val xs) e0).e) (hsc : ¬ (8 ≤ s ∧ s ≤ 9000)) :
    Calls Tryz.prog 3 #[.agg #[.bool g, .slice A n c, .int .i64 e0], .int .i64 s] w fun e w' => e = .returned (.bool true) ∧ Below w.heap.size w w' := by
  obtain ⟨⟨ng, nV, nE⟩, hO⟩ : ∃ o, nO g (val xs) e0 = o := ⟨_, rfl⟩
  have hRL := right_log hO
  dsimp only at hRL
  have a1 := below1 w (.cells #[.bool g, .slice A n c, .int .i64 e0] 24)
  have HS := Lib.hid a1
  have HT := Lib.hid (hT.below a1)
  have HXl := Lib.hid (hA.below a1)
  have HX := Lib.hid (Bd.new w 24 g A n c e0)
  have H1 := Lib.hid (lalive_any _ HT.out)
  have HO := Lib.hid hO
  have l1 : decide ((70 : Int) < (n : Int)) = false := decide_eq_false (by omega)
  have l1n : decide (70 < n) = false := decide_eq_false (by omega)
  have l2 : decide ((12 : Int) < (n : Int)) = false := decide_eq_false (by omega)
  have l2n : decide (12 < n) = false := decide_eq_false (by omega)
  rw [hO] at hr
  dsimp only at hr
  have HN : Hid (¬ ((∃ d, mk g (val xs) e0 = some d ∧ LogD d) ∧ 8 ≤ s ∧ s ≤ 9000)) := fun h => hsc h.2
  have HR : Hid (decide (RightP ng nV nE) = true) := decide_eq_true hr
  have HSc : Hid (decide (8 ≤ s ∧ s ≤ 9000) = false) := decide_eq_false hsc
  clear hT hA a1 hO hRL hr hsc
  go_enter Tryz.func3, Tryz.ntmps3
  go_wp2_with fail
  refine H1.out.mono ?_
  rintro e w1 ⟨rfl, hB⟩
  replace HT : Hid (Tab w1) := HT.out.below hB
  replace HXl : Hid (Lim w1 A n c xs) := HXl.out.below hB
  replace HX : Hid (Bd w1 w.heap.size 24 g A n c e0) := HX.out.below hB
  replace HS := Lib.hid (HS.out.trans (hB.mono HS.out.size))
  clear hB H1
  have HX_0 := HX.out.c0
  have HX_1 := HX.out.c1
  have HX_2 := HX.out.c2
  have H2 := rof_any g A n c xs e0 w1 HXl.out (by omega)
  rw [HO.out] at H2
  replace H2 := Lib.hid H2
  go_wp2_with fail
  refine H2.out.mono ?_
  rintro e w2 ⟨An, mn, cn, dn, rfl, hmn, hln, hbn, hvn, hB⟩
  clear HX_0 HX_1 HX_2
  replace HT : Hid (Tab w2) := HT.out.below hB
  replace HXl : Hid (Lim w2 A n c xs) := HXl.out.below hB
  replace HX : Hid (Bd w2 w.heap.size 24 g A n c e0) := HX.out.below hB
  replace HS := Lib.hid (HS.out.trans (hB.mono HS.out.size))
  dsimp only at hvn
  have HNd : Hid (Dig w2 An mn cn dn ∧ D.Bare dn ∧ D.val dn = nV) := ⟨hln, hbn, hvn⟩
  clear hln hbn hvn hB H2
  have ba := below1 w2 (.cells #[.bool ng, .slice An mn cn, .int .i64 nE] 28)
  replace HT : Hid (Tab (w2.alloc (.cells #[.bool ng, .slice An mn cn, .int .i64 nE] 28))) := HT.out.below ba
  replace HXl : Hid (Lim (w2.alloc (.cells #[.bool ng, .slice An mn cn, .int .i64 nE] 28)) A n c xs) := HXl.out.below ba
  replace HX : Hid (Bd (w2.alloc (.cells #[.bool ng, .slice An mn cn, .int .i64 nE] 28)) w.heap.size 24 g A n c e0) := HX.out.below ba
  replace HNd : Hid (Dig (w2.alloc (.cells #[.bool ng, .slice An mn cn, .int .i64 nE] 28)) An mn cn dn ∧ D.Bare dn ∧ D.val dn = nV) := ⟨HNd.out.1.below ba, HNd.out.2⟩
  replace HS := Lib.hid (HS.out.trans (ba.mono HS.out.size))
  clear ba
  have HNb : Hid (Bd (w2.alloc (.cells #[.bool ng, .slice An mn cn, .int .i64 nE] 28)) w2.heap.size 28 ng An mn cn nE) := Bd.new w2 28 ng An mn cn nE
  have HX_0 := HX.out.c0
  have HX_1 := HX.out.c1
  have HX_2 := HX.out.c2
  have H3 := Lib.hid (log_lg g A n c xs e0 s (w2.alloc (.cells #[.bool ng, .slice An mn cn, .int .i64 nE] 28)) HXl.out (by omega) HT.out (by omega) (by omega))
  go_wp2_with fail
  refine H3.out.mono ?_
  rintro e w3 ⟨gp, Ap, mp, cp, sp, ep, gq, Aq, mq, cq, sq, eq, r, rfl, hmp, hmq, hlp, hlq, hbp, hbq, hB, hq⟩
  clear HX_0 HX_1 HX_2
  replace HT : Hid (Tab w3) := HT.out.below hB
  replace HXl : Hid (Lim w3 A n c xs) := HXl.out.below hB
  replace HX : Hid (Bd w3 w.heap.size 24 g A n c e0) := HX.out.below hB
  replace HNd : Hid (Dig w3 An mn cn dn ∧ D.Bare dn ∧ D.val dn = nV) := ⟨HNd.out.1.below hB, HNd.out.2⟩
  replace HNb : Hid (Bd w3 w2.heap.size 28 ng An mn cn nE) := HNb.out.below hB
  replace HS := Lib.hid (HS.out.trans (hB.mono HS.out.size))
  obtain ⟨rfl, rfl, rfl⟩ := logp_no hq HN.out
  clear hmp hmq hlp hlq hbp hbq hB hq H3
  have ba := below1 w3 (.cells #[.bool gp, .slice Ap 0 cp, .int .i64 ep, .bool gq, .slice Aq 0 cq, .int .i64 eq] 32)
  replace HT : Hid (Tab (w3.alloc (.cells #[.bool gp, .slice Ap 0 cp, .int .i64 ep, .bool gq, .slice Aq 0 cq, .int .i64 eq] 32))) := HT.out.below ba
  replace HXl : Hid (Lim (w3.alloc (.cells #[.bool gp, .slice Ap 0 cp, .int .i64 ep, .bool gq, .slice Aq 0 cq, .int .i64 eq] 32)) A n c xs) := HXl.out.below ba
  replace HX : Hid (Bd (w3.alloc (.cells #[.bool gp, .slice Ap 0 cp, .int .i64 ep, .bool gq, .slice Aq 0 cq, .int .i64 eq] 32)) w.heap.size 24 g A n c e0) := HX.out.below ba
  replace HNd : Hid (Dig (w3.alloc (.cells #[.bool gp, .slice Ap 0 cp, .int .i64 ep, .bool gq, .slice Aq 0 cq, .int .i64 eq] 32)) An mn cn dn ∧ D.Bare dn ∧ D.val dn = nV) := ⟨HNd.out.1.below ba, HNd.out.2⟩
  replace HNb : Hid (Bd (w3.alloc (.cells #[.bool gp, .slice Ap 0 cp, .int .i64 ep, .bool gq, .slice Aq 0 cq, .int .i64 eq] 32)) w2.heap.size 28 ng An mn cn nE) := HNb.out.below ba
  replace HS := Lib.hid (HS.out.trans (ba.mono HS.out.size))
  clear ba
  have HI : Hid (Ib (w3.alloc (.cells #[.bool gp, .slice Ap 0 cp, .int .i64 ep, .bool gq, .slice Aq 0 cq, .int .i64 eq] 32)) w3.heap.size gp Ap 0 cp ep gq Aq 0 cq eq) := Ib.new w3 gp Ap 0 cp ep gq Aq 0 cq eq
  have HNb_0 := HNb.out.c0
  have HNb_1 := HNb.out.c1
  have HNb_2 := HNb.out.c2
  have H4 := Lib.hid (rright_l true ng An mn cn dn nE (w3.alloc (.cells #[.bool gp, .slice Ap 0 cp, .int .i64 ep, .bool gq, .slice Aq 0 cq, .int .i64 eq] 32)) HNd.out.1 HNd.out.2.1 (by omega) (by rw [HNd.out.2.2]; exact HR.out))
  go_wp2_with fail
  refine H4.out.mono ?_
  rintro e w4 ⟨rfl, hB⟩
  clear HNb_0 HNb_1 HNb_2
  replace HT : Hid (Tab w4) := HT.out.below hB
  replace HXl : Hid (Lim w4 A n c xs) := HXl.out.below hB
  replace HX : Hid (Bd w4 w.heap.size 24 g A n c e0) := HX.out.below hB
  replace HNd : Hid (Dig w4 An mn cn dn ∧ D.Bare dn ∧ D.val dn = nV) := ⟨HNd.out.1.below hB, HNd.out.2⟩
  replace HNb : Hid (Bd w4 w2.heap.size 28 ng An mn cn nE) := HNb.out.below hB
  replace HI : Hid (Ib w4 w3.heap.size gp Ap 0 cp ep gq Aq 0 cq eq) := HI.out.below hB
  replace HS := Lib.hid (HS.out.trans (hB.mono HS.out.size))
  clear hB H4
  have H5 := Lib.hid (right_l s false w4 HSc.out)
  have HI_0 := HI.out.x0
  have HI_1 := HI.out.x1
  have HI_2 := HI.out.x2
  have HI_3 := HI.out.x3
  have HI_4 := HI.out.x4
  have HI_5 := HI.out.x5
  go_wp2_with fail
  refine H5.out.mono ?_
  rintro e w' ⟨rfl, rfl⟩
  clear H5
  have Hfin := Lib.hid HS.out
  clear HS HO HN HR HSc HT HXl HX HNd HNb HI
  go_wp2
  go_ret
  exact ⟨rfl, Hfin.out⟩

set_option maxHeartbeats 8000000 in
set_option maxRecDepth 20000 in
theorem ltell_no1b (g : Bool) (A : Option Addr) (n c : Nat) (xs : List Nat) (e0 : Int) (s : Int) (w : World) (hT : Tab w) (hA : Lim w A n c xs) (hl : n ≤ 70 ∧ 12 < n ∧ s ≤ 100) (hs1 : -9223372036854775808 ≤ s) (hs2 : s ≤ 9223372036854775807) (hr : ¬ RightP (nO g (val xs) e0).neg (nO g (val xs) e0).V (nO g (val xs) e0).e) :
    Calls Tryz.prog 3 #[.agg #[.bool g, .slice A n c, .int .i64 e0], .int .i64 s] w fun e w' => e = .returned (.bool true) ∧ Below w.heap.size w w' := by
  obtain ⟨⟨ng, nV, nE⟩, hO⟩ : ∃ o, nO g (val xs) e0 = o := ⟨_, rfl⟩
  have hRL := right_log hO
  dsimp only at hRL
  have a1 := below1 w (.cells #[.bool g, .slice A n c, .int .i64 e0] 24)
  have HS := Lib.hid a1
  have HT := Lib.hid (hT.below a1)
  have HXl := Lib.hid (hA.below a1)
  have HX := Lib.hid (Bd.new w 24 g A n c e0)
  have H1 := Lib.hid (lalive_any _ HT.out)
  have HO := Lib.hid hO
  have l1 : decide ((70 : Int) < (n : Int)) = false := decide_eq_false (by omega)
  have l1n : decide (70 < n) = false := decide_eq_false (by omega)
  have l2 : decide ((12 : Int) < (n : Int)) = true := decide_eq_true (by omega)
  have l2n : decide (12 < n) = true := decide_eq_true (by omega)
  have l3 : decide ((100 : Int) < s) = false := decide_eq_false (by omega)
  rw [hO] at hr
  dsimp only at hr
  have HN : Hid (¬ ((∃ d, mk g (val xs) e0 = some d ∧ LogD d) ∧ 8 ≤ s ∧ s ≤ 9000)) := fun h => hRL.2 hr h.1
  have HR : Hid (decide (RightP ng nV nE) = false) := decide_eq_false hr
  clear hT hA a1 hO hRL hr
  go_enter Tryz.func3, Tryz.ntmps3
  go_wp2_with fail
  refine H1.out.mono ?_
  rintro e w1 ⟨rfl, hB⟩
  replace HT : Hid (Tab w1) := HT.out.below hB
  replace HXl : Hid (Lim w1 A n c xs) := HXl.out.below hB
  replace HX : Hid (Bd w1 w.heap.size 24 g A n c e0) := HX.out.below hB
  replace HS := Lib.hid (HS.out.trans (hB.mono HS.out.size))
  clear hB H1
  have HX_0 := HX.out.c0
  have HX_1 := HX.out.c1
  have HX_2 := HX.out.c2
  have H2 := rof_any g A n c xs e0 w1 HXl.out (by omega)
  rw [HO.out] at H2
  replace H2 := Lib.hid H2
  go_wp2_with fail
  refine H2.out.mono ?_
  rintro e w2 ⟨An, mn, cn, dn, rfl, hmn, hln, hbn, hvn, hB⟩
  clear HX_0 HX_1 HX_2
  replace HT : Hid (Tab w2) := HT.out.below hB
  replace HXl : Hid (Lim w2 A n c xs) := HXl.out.below hB
  replace HX : Hid (Bd w2 w.heap.size 24 g A n c e0) := HX.out.below hB
  replace HS := Lib.hid (HS.out.trans (hB.mono HS.out.size))
  dsimp only at hvn
  have HNd : Hid (Dig w2 An mn cn dn ∧ D.Bare dn ∧ D.val dn = nV) := ⟨hln, hbn, hvn⟩
  clear hln hbn hvn hB H2
  have ba := below1 w2 (.cells #[.bool ng, .slice An mn cn, .int .i64 nE] 28)
  replace HT : Hid (Tab (w2.alloc (.cells #[.bool ng, .slice An mn cn, .int .i64 nE] 28))) := HT.out.below ba
  replace HXl : Hid (Lim (w2.alloc (.cells #[.bool ng, .slice An mn cn, .int .i64 nE] 28)) A n c xs) := HXl.out.below ba
  replace HX : Hid (Bd (w2.alloc (.cells #[.bool ng, .slice An mn cn, .int .i64 nE] 28)) w.heap.size 24 g A n c e0) := HX.out.below ba
  replace HNd : Hid (Dig (w2.alloc (.cells #[.bool ng, .slice An mn cn, .int .i64 nE] 28)) An mn cn dn ∧ D.Bare dn ∧ D.val dn = nV) := ⟨HNd.out.1.below ba, HNd.out.2⟩
  replace HS := Lib.hid (HS.out.trans (ba.mono HS.out.size))
  clear ba
  have HNb : Hid (Bd (w2.alloc (.cells #[.bool ng, .slice An mn cn, .int .i64 nE] 28)) w2.heap.size 28 ng An mn cn nE) := Bd.new w2 28 ng An mn cn nE
  have HX_0 := HX.out.c0
  have HX_1 := HX.out.c1
  have HX_2 := HX.out.c2
  have H3 := Lib.hid (log_lg g A n c xs e0 s (w2.alloc (.cells #[.bool ng, .slice An mn cn, .int .i64 nE] 28)) HXl.out (by omega) HT.out (by omega) (by omega))
  go_wp2_with fail
  refine H3.out.mono ?_
  rintro e w3 ⟨gp, Ap, mp, cp, sp, ep, gq, Aq, mq, cq, sq, eq, r, rfl, hmp, hmq, hlp, hlq, hbp, hbq, hB, hq⟩
  clear HX_0 HX_1 HX_2
  replace HT : Hid (Tab w3) := HT.out.below hB
  replace HXl : Hid (Lim w3 A n c xs) := HXl.out.below hB
  replace HX : Hid (Bd w3 w.heap.size 24 g A n c e0) := HX.out.below hB
  replace HNd : Hid (Dig w3 An mn cn dn ∧ D.Bare dn ∧ D.val dn = nV) := ⟨HNd.out.1.below hB, HNd.out.2⟩
  replace HNb : Hid (Bd w3 w2.heap.size 28 ng An mn cn nE) := HNb.out.below hB
  replace HS := Lib.hid (HS.out.trans (hB.mono HS.out.size))
  obtain ⟨rfl, rfl, rfl⟩ := logp_no hq HN.out
  clear hmp hmq hlp hlq hbp hbq hB hq H3
  have ba := below1 w3 (.cells #[.bool gp, .slice Ap 0 cp, .int .i64 ep, .bool gq, .slice Aq 0 cq, .int .i64 eq] 32)
  replace HT : Hid (Tab (w3.alloc (.cells #[.bool gp, .slice Ap 0 cp, .int .i64 ep, .bool gq, .slice Aq 0 cq, .int .i64 eq] 32))) := HT.out.below ba
  replace HXl : Hid (Lim (w3.alloc (.cells #[.bool gp, .slice Ap 0 cp, .int .i64 ep, .bool gq, .slice Aq 0 cq, .int .i64 eq] 32)) A n c xs) := HXl.out.below ba
  replace HX : Hid (Bd (w3.alloc (.cells #[.bool gp, .slice Ap 0 cp, .int .i64 ep, .bool gq, .slice Aq 0 cq, .int .i64 eq] 32)) w.heap.size 24 g A n c e0) := HX.out.below ba
  replace HNd : Hid (Dig (w3.alloc (.cells #[.bool gp, .slice Ap 0 cp, .int .i64 ep, .bool gq, .slice Aq 0 cq, .int .i64 eq] 32)) An mn cn dn ∧ D.Bare dn ∧ D.val dn = nV) := ⟨HNd.out.1.below ba, HNd.out.2⟩
  replace HNb : Hid (Bd (w3.alloc (.cells #[.bool gp, .slice Ap 0 cp, .int .i64 ep, .bool gq, .slice Aq 0 cq, .int .i64 eq] 32)) w2.heap.size 28 ng An mn cn nE) := HNb.out.below ba
  replace HS := Lib.hid (HS.out.trans (ba.mono HS.out.size))
  clear ba
  have HI : Hid (Ib (w3.alloc (.cells #[.bool gp, .slice Ap 0 cp, .int .i64 ep, .bool gq, .slice Aq 0 cq, .int .i64 eq] 32)) w3.heap.size gp Ap 0 cp ep gq Aq 0 cq eq) := Ib.new w3 gp Ap 0 cp ep gq Aq 0 cq eq
  have HNb_0 := HNb.out.c0
  have HNb_1 := HNb.out.c1
  have HNb_2 := HNb.out.c2
  have H4 := Lib.hid (rright_l false ng An mn cn dn nE (w3.alloc (.cells #[.bool gp, .slice Ap 0 cp, .int .i64 ep, .bool gq, .slice Aq 0 cq, .int .i64 eq] 32)) HNd.out.1 HNd.out.2.1 (by omega) (by rw [HNd.out.2.2]; exact HR.out))
  go_wp2_with fail
  refine H4.out.mono ?_
  rintro e w4 ⟨rfl, hB⟩
  clear HNb_0 HNb_1 HNb_2
  replace HT : Hid (Tab w4) := HT.out.below hB
  replace HXl : Hid (Lim w4 A n c xs) := HXl.out.below hB
  replace HX : Hid (Bd w4 w.heap.size 24 g A n c e0) := HX.out.below hB
  replace HNd : Hid (Dig w4 An mn cn dn ∧ D.Bare dn ∧ D.val dn = nV) := ⟨HNd.out.1.below hB, HNd.out.2⟩
  replace HNb : Hid (Bd w4 w2.heap.size 28 ng An mn cn nE) := HNb.out.below hB
  replace HI : Hid (Ib w4 w3.heap.size gp Ap 0 cp ep gq Aq 0 cq eq) := HI.out.below hB
  replace HS := Lib.hid (HS.out.trans (hB.mono HS.out.size))
  clear hB H4
  have HI_0 := HI.out.x0
  have HI_1 := HI.out.x1
  have HI_2 := HI.out.x2
  have HI_3 := HI.out.x3
  have HI_4 := HI.out.x4
  have HI_5 := HI.out.x5
  have Hfin := Lib.hid HS.out
  clear HS HO HN HR HT HXl HX HNd HNb HI
  go_wp2
  go_ret
  exact ⟨rfl, Hfin.out⟩

set_option maxHeartbeats 8000000 in
set_option maxRecDepth 20000 in
theorem ltell_no2b (g : Bool) (A : Option Addr) (n c : Nat) (xs : List Nat) (e0 : Int) (s : Int) (w : World) (hT : Tab w) (hA : Lim w A n c xs) (hl : n ≤ 70 ∧ 12 < n ∧ s ≤ 100) (hs1 : -9223372036854775808 ≤ s) (hs2 : s ≤ 9223372036854775807) (hr : RightP (nO g (val xs) e0).neg (nO g (val xs) e0).V (nO g (val xs) e0).e) (hsc : ¬ (8 ≤ s ∧ s ≤ 9000)) :
    Calls Tryz.prog 3 #[.agg #[.bool g, .slice A n c, .int .i64 e0], .int .i64 s] w fun e w' => e = .returned (.bool true) ∧ Below w.heap.size w w' := by
  obtain ⟨⟨ng, nV, nE⟩, hO⟩ : ∃ o, nO g (val xs) e0 = o := ⟨_, rfl⟩
  have hRL := right_log hO
  dsimp only at hRL
  have a1 := below1 w (.cells #[.bool g, .slice A n c, .int .i64 e0] 24)
  have HS := Lib.hid a1
  have HT := Lib.hid (hT.below a1)
  have HXl := Lib.hid (hA.below a1)
  have HX := Lib.hid (Bd.new w 24 g A n c e0)
  have H1 := Lib.hid (lalive_any _ HT.out)
  have HO := Lib.hid hO
  have l1 : decide ((70 : Int) < (n : Int)) = false := decide_eq_false (by omega)
  have l1n : decide (70 < n) = false := decide_eq_false (by omega)
  have l2 : decide ((12 : Int) < (n : Int)) = true := decide_eq_true (by omega)
  have l2n : decide (12 < n) = true := decide_eq_true (by omega)
  have l3 : decide ((100 : Int) < s) = false := decide_eq_false (by omega)
  rw [hO] at hr
  dsimp only at hr
  have HN : Hid (¬ ((∃ d, mk g (val xs) e0 = some d ∧ LogD d) ∧ 8 ≤ s ∧ s ≤ 9000)) := fun h => hsc h.2
  have HR : Hid (decide (RightP ng nV nE) = true) := decide_eq_true hr
  have HSc : Hid (decide (8 ≤ s ∧ s ≤ 9000) = false) := decide_eq_false hsc
  clear hT hA a1 hO hRL hr hsc
  go_enter Tryz.func3, Tryz.ntmps3
  go_wp2_with fail
  refine H1.out.mono ?_
  rintro e w1 ⟨rfl, hB⟩
  replace HT : Hid (Tab w1) := HT.out.below hB
  replace HXl : Hid (Lim w1 A n c xs) := HXl.out.below hB
  replace HX : Hid (Bd w1 w.heap.size 24 g A n c e0) := HX.out.below hB
  replace HS := Lib.hid (HS.out.trans (hB.mono HS.out.size))
  clear hB H1
  have HX_0 := HX.out.c0
  have HX_1 := HX.out.c1
  have HX_2 := HX.out.c2
  have H2 := rof_any g A n c xs e0 w1 HXl.out (by omega)
  rw [HO.out] at H2
  replace H2 := Lib.hid H2
  go_wp2_with fail
  refine H2.out.mono ?_
  rintro e w2 ⟨An, mn, cn, dn, rfl, hmn, hln, hbn, hvn, hB⟩
  clear HX_0 HX_1 HX_2
  replace HT : Hid (Tab w2) := HT.out.below hB
  replace HXl : Hid (Lim w2 A n c xs) := HXl.out.below hB
  replace HX : Hid (Bd w2 w.heap.size 24 g A n c e0) := HX.out.below hB
  replace HS := Lib.hid (HS.out.trans (hB.mono HS.out.size))
  dsimp only at hvn
  have HNd : Hid (Dig w2 An mn cn dn ∧ D.Bare dn ∧ D.val dn = nV) := ⟨hln, hbn, hvn⟩
  clear hln hbn hvn hB H2
  have ba := below1 w2 (.cells #[.bool ng, .slice An mn cn, .int .i64 nE] 28)
  replace HT : Hid (Tab (w2.alloc (.cells #[.bool ng, .slice An mn cn, .int .i64 nE] 28))) := HT.out.below ba
  replace HXl : Hid (Lim (w2.alloc (.cells #[.bool ng, .slice An mn cn, .int .i64 nE] 28)) A n c xs) := HXl.out.below ba
  replace HX : Hid (Bd (w2.alloc (.cells #[.bool ng, .slice An mn cn, .int .i64 nE] 28)) w.heap.size 24 g A n c e0) := HX.out.below ba
  replace HNd : Hid (Dig (w2.alloc (.cells #[.bool ng, .slice An mn cn, .int .i64 nE] 28)) An mn cn dn ∧ D.Bare dn ∧ D.val dn = nV) := ⟨HNd.out.1.below ba, HNd.out.2⟩
  replace HS := Lib.hid (HS.out.trans (ba.mono HS.out.size))
  clear ba
  have HNb : Hid (Bd (w2.alloc (.cells #[.bool ng, .slice An mn cn, .int .i64 nE] 28)) w2.heap.size 28 ng An mn cn nE) := Bd.new w2 28 ng An mn cn nE
  have HX_0 := HX.out.c0
  have HX_1 := HX.out.c1
  have HX_2 := HX.out.c2
  have H3 := Lib.hid (log_lg g A n c xs e0 s (w2.alloc (.cells #[.bool ng, .slice An mn cn, .int .i64 nE] 28)) HXl.out (by omega) HT.out (by omega) (by omega))
  go_wp2_with fail
  refine H3.out.mono ?_
  rintro e w3 ⟨gp, Ap, mp, cp, sp, ep, gq, Aq, mq, cq, sq, eq, r, rfl, hmp, hmq, hlp, hlq, hbp, hbq, hB, hq⟩
  clear HX_0 HX_1 HX_2
  replace HT : Hid (Tab w3) := HT.out.below hB
  replace HXl : Hid (Lim w3 A n c xs) := HXl.out.below hB
  replace HX : Hid (Bd w3 w.heap.size 24 g A n c e0) := HX.out.below hB
  replace HNd : Hid (Dig w3 An mn cn dn ∧ D.Bare dn ∧ D.val dn = nV) := ⟨HNd.out.1.below hB, HNd.out.2⟩
  replace HNb : Hid (Bd w3 w2.heap.size 28 ng An mn cn nE) := HNb.out.below hB
  replace HS := Lib.hid (HS.out.trans (hB.mono HS.out.size))
  obtain ⟨rfl, rfl, rfl⟩ := logp_no hq HN.out
  clear hmp hmq hlp hlq hbp hbq hB hq H3
  have ba := below1 w3 (.cells #[.bool gp, .slice Ap 0 cp, .int .i64 ep, .bool gq, .slice Aq 0 cq, .int .i64 eq] 32)
  replace HT : Hid (Tab (w3.alloc (.cells #[.bool gp, .slice Ap 0 cp, .int .i64 ep, .bool gq, .slice Aq 0 cq, .int .i64 eq] 32))) := HT.out.below ba
  replace HXl : Hid (Lim (w3.alloc (.cells #[.bool gp, .slice Ap 0 cp, .int .i64 ep, .bool gq, .slice Aq 0 cq, .int .i64 eq] 32)) A n c xs) := HXl.out.below ba
  replace HX : Hid (Bd (w3.alloc (.cells #[.bool gp, .slice Ap 0 cp, .int .i64 ep, .bool gq, .slice Aq 0 cq, .int .i64 eq] 32)) w.heap.size 24 g A n c e0) := HX.out.below ba
  replace HNd : Hid (Dig (w3.alloc (.cells #[.bool gp, .slice Ap 0 cp, .int .i64 ep, .bool gq, .slice Aq 0 cq, .int .i64 eq] 32)) An mn cn dn ∧ D.Bare dn ∧ D.val dn = nV) := ⟨HNd.out.1.below ba, HNd.out.2⟩
  replace HNb : Hid (Bd (w3.alloc (.cells #[.bool gp, .slice Ap 0 cp, .int .i64 ep, .bool gq, .slice Aq 0 cq, .int .i64 eq] 32)) w2.heap.size 28 ng An mn cn nE) := HNb.out.below ba
  replace HS := Lib.hid (HS.out.trans (ba.mono HS.out.size))
  clear ba
  have HI : Hid (Ib (w3.alloc (.cells #[.bool gp, .slice Ap 0 cp, .int .i64 ep, .bool gq, .slice Aq 0 cq, .int .i64 eq] 32)) w3.heap.size gp Ap 0 cp ep gq Aq 0 cq eq) := Ib.new w3 gp Ap 0 cp ep gq Aq 0 cq eq
  have HNb_0 := HNb.out.c0
  have HNb_1 := HNb.out.c1
  have HNb_2 := HNb.out.c2
  have H4 := Lib.hid (rright_l true ng An mn cn dn nE (w3.alloc (.cells #[.bool gp, .slice Ap 0 cp, .int .i64 ep, .bool gq, .slice Aq 0 cq, .int .i64 eq] 32)) HNd.out.1 HNd.out.2.1 (by omega) (by rw [HNd.out.2.2]; exact HR.out))
  go_wp2_with fail
  refine H4.out.mono ?_
  rintro e w4 ⟨rfl, hB⟩
  clear HNb_0 HNb_1 HNb_2
  replace HT : Hid (Tab w4) := HT.out.below hB
  replace HXl : Hid (Lim w4 A n c xs) := HXl.out.below hB
  replace HX : Hid (Bd w4 w.heap.size 24 g A n c e0) := HX.out.below hB
  replace HNd : Hid (Dig w4 An mn cn dn ∧ D.Bare dn ∧ D.val dn = nV) := ⟨HNd.out.1.below hB, HNd.out.2⟩
  replace HNb : Hid (Bd w4 w2.heap.size 28 ng An mn cn nE) := HNb.out.below hB
  replace HI : Hid (Ib w4 w3.heap.size gp Ap 0 cp ep gq Aq 0 cq eq) := HI.out.below hB
  replace HS := Lib.hid (HS.out.trans (hB.mono HS.out.size))
  clear hB H4
  have H5 := Lib.hid (right_l s false w4 HSc.out)
  have HI_0 := HI.out.x0
  have HI_1 := HI.out.x1
  have HI_2 := HI.out.x2
  have HI_3 := HI.out.x3
  have HI_4 := HI.out.x4
  have HI_5 := HI.out.x5
  go_wp2_with fail
  refine H5.out.mono ?_
  rintro e w' ⟨rfl, rfl⟩
  clear H5
  have Hfin := Lib.hid HS.out
  clear HS HO HN HR HSc HT HXl HX HNd HNb HI
  go_wp2
  go_ret
  exact ⟨rfl, Hfin.out⟩

end Go.Proofs.YtpbggonfdaealaaGreatDoor
