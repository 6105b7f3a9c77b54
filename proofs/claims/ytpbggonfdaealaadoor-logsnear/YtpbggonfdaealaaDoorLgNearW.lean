/- The walk of the law LogsNear (written by law_lnearw.py). -/
import Derived.Test.YtpbggonfdaealaaDoorLgAlive
import Derived.Test.YtpbggonfdaealaaDoorLgRight
namespace Go.Proofs.YtpbggonfdaealaaDoor
open Go.RowKit

theorem np_blenP (V : Nat) : blen (npP V) = npE V + 1 := two_len _
/-- The power ahead of the turn. -/
theorem np_half {V : Nat} (h : V ≠ 0) : (npN V = true → npP V = 2 ^ (blen V - 1) + 2 ^ (blen V - 1) ∧ 3 * 2 ^ (blen V - 1) ≤ 2 * V) ∧ (npN V = false → npP V = 2 ^ (blen V - 1) ∧ 2 * V < 3 * 2 ^ (blen V - 1)) := by
  have hb := blen_pos h
  rcases np_cases h with ⟨h1, _, h3, h4⟩ | ⟨h1, _, h3, h4⟩
  · refine ⟨fun _ => ⟨?_, h4⟩, fun hn => absurd h1 (of_decide_eq_false hn)⟩
    unfold npP
    rw [h3, show blen V = blen V - 1 + 1 by omega, Nat.pow_succ, Nat.mul_two]
    rfl
  · refine ⟨fun hn => absurd (of_decide_eq_true hn) (by omega), fun _ => ⟨?_, h4⟩⟩
    unfold npP
    rw [h3]

set_option maxHeartbeats 1000000 in
set_option maxRecDepth 20000 in
theorem lnear_long (g : Bool) (A : Option Addr) (n c : Nat) (xs : List Nat) (e0 : Int) (w : World) (hT : Tab w) (_hA : Lim w A n c xs) (hl : 70 < n) :
    Calls Tryd.prog 3 #[.agg #[.bool g, .slice A n c, .int .i64 e0]] w fun e w' => e = .returned (.bool true) ∧ Below w.heap.size w w' := by
  have a1 := below1 w (.cells #[.bool g, .slice A n c, .int .i64 e0] 24)
  have H1 := Lib.hid (lalive_any _ (hT.below a1))
  have HX := Lib.hid (Bd.new w 24 g A n c e0)
  have HS := Lib.hid a1
  have d1 : decide ((70 : Int) < (n : Int)) = true := decide_eq_true (by omega)
  have d2 : decide (70 < n) = true := decide_eq_true hl
  clear hT a1 hl
  go_enter Tryd.func3, Tryd.ntmps3
  go_wp2_with fail
  refine H1.out.mono ?_
  rintro e w1 ⟨rfl, hB1⟩
  have x1 := (HX.out.below hB1).c1
  have Hfin := Lib.hid (HS.out.trans (hB1.mono HS.out.size))
  clear hB1 H1 HX HS
  go_wp2
  go_ret
  exact ⟨rfl, Hfin.out⟩

set_option maxHeartbeats 8000000 in
set_option maxRecDepth 20000 in
theorem lnear_no (g : Bool) (A : Option Addr) (n c : Nat) (xs : List Nat) (e0 : Int) (w : World) (hT : Tab w) (hA : Lim w A n c xs) (hl : n ≤ 70) (hr : ¬ RightP (nO g (val xs) e0).neg (nO g (val xs) e0).V (nO g (val xs) e0).e) :
    Calls Tryd.prog 3 #[.agg #[.bool g, .slice A n c, .int .i64 e0]] w fun e w' => e = .returned (.bool true) ∧ Below w.heap.size w w' := by
  obtain ⟨⟨ng, nV, nE⟩, hO⟩ : ∃ o, nO g (val xs) e0 = o := ⟨_, rfl⟩
  have hRL := right_log hO
  dsimp only at hRL
  rw [hO] at hr
  dsimp only at hr
  have a1 := below1 w (.cells #[.bool g, .slice A n c, .int .i64 e0] 24)
  have HS := Lib.hid a1
  have HT := Lib.hid (hT.below a1)
  have HXl := Lib.hid (hA.below a1)
  have HX := Lib.hid (Bd.new w 24 g A n c e0)
  have H1 := Lib.hid (lalive_any _ HT.out)
  have HO := Lib.hid hO
  have d1 : decide ((70 : Int) < (n : Int)) = false := decide_eq_false (by omega)
  have d2 : decide (70 < n) = false := decide_eq_false (by omega)
  have HN : Hid (¬ ∃ d, mk g (val xs) e0 = some d ∧ LogD d) := hRL.2 hr
  have HR : Hid (decide (RightP ng nV nE) = false) := decide_eq_false hr
  clear hT hA a1 hO hRL hr
  go_enter Tryd.func3, Tryd.ntmps3
  go_wp2_with fail
  refine H1.out.mono ?_
  rintro e w1 ⟨rfl, hB⟩
  replace HT : Hid (Tab w1) := HT.out.below hB
  replace HXl : Hid (Lim w1 A n c xs) := HXl.out.below hB
  replace HX : Hid (Bd w1 w.heap.size 24 g A n c e0) := HX.out.below hB
  replace HS := Lib.hid (HS.out.trans (hB.mono HS.out.size))
  clear hB H1
  have HX_0 := HX.out.c0
  have HX_1 := HX.out.c1
  have HX_2 := HX.out.c2
  have H2 := rof_any g A n c xs e0 w1 HXl.out (by omega)
  rw [HO.out] at H2
  replace H2 := Lib.hid H2
  go_wp2_with fail
  refine H2.out.mono ?_
  rintro e w2 ⟨An, mn, cn, dn, rfl, hmn, hln, hbn, hvn, hB⟩
  clear HX_0 HX_1 HX_2
  replace HT : Hid (Tab w2) := HT.out.below hB
  replace HXl : Hid (Lim w2 A n c xs) := HXl.out.below hB
  replace HX : Hid (Bd w2 w.heap.size 24 g A n c e0) := HX.out.below hB
  replace HS := Lib.hid (HS.out.trans (hB.mono HS.out.size))
  dsimp only at hvn
  have HNd : Hid (Dig w2 An mn cn dn ∧ D.Bare dn ∧ D.val dn = nV) := ⟨hln, hbn, hvn⟩
  clear hln hbn hvn hB H2
  have ba := below1 w2 (.cells #[.bool ng, .slice An mn cn, .int .i64 nE] 28)
  replace HT : Hid (Tab (w2.alloc (.cells #[.bool ng, .slice An mn cn, .int .i64 nE] 28))) := HT.out.below ba
  replace HXl : Hid (Lim (w2.alloc (.cells #[.bool ng, .slice An mn cn, .int .i64 nE] 28)) A n c xs) := HXl.out.below ba
  replace HX : Hid (Bd (w2.alloc (.cells #[.bool ng, .slice An mn cn, .int .i64 nE] 28)) w.heap.size 24 g A n c e0) := HX.out.below ba
  replace HNd : Hid (Dig (w2.alloc (.cells #[.bool ng, .slice An mn cn, .int .i64 nE] 28)) An mn cn dn ∧ D.Bare dn ∧ D.val dn = nV) := ⟨HNd.out.1.below ba, HNd.out.2⟩
  replace HS := Lib.hid (HS.out.trans (ba.mono HS.out.size))
  clear ba
  have HNb : Hid (Bd (w2.alloc (.cells #[.bool ng, .slice An mn cn, .int .i64 nE] 28)) w2.heap.size 28 ng An mn cn nE) := Bd.new w2 28 ng An mn cn nE
  have HX_0 := HX.out.c0
  have HX_1 := HX.out.c1
  have HX_2 := HX.out.c2
  have H3 := Lib.hid (near_l g A n c xs e0 (w2.alloc (.cells #[.bool ng, .slice An mn cn, .int .i64 nE] 28)) HXl.out (by omega) HT.out)
  go_wp2_with fail
  refine H3.out.mono ?_
  rintro e w3 ⟨A1, m1, c1, zs, A2, m2, c2, us, neg, E, ok, rfl, hm1, hm2, hl1, hl2, hb1, hb2, hB, hq⟩
  clear HX_0 HX_1 HX_2
  replace HT : Hid (Tab w3) := HT.out.below hB
  replace HXl : Hid (Lim w3 A n c xs) := HXl.out.below hB
  replace HX : Hid (Bd w3 w.heap.size 24 g A n c e0) := HX.out.below hB
  replace HNd : Hid (Dig w3 An mn cn dn ∧ D.Bare dn ∧ D.val dn = nV) := ⟨HNd.out.1.below hB, HNd.out.2⟩
  replace HNb : Hid (Bd w3 w2.heap.size 28 ng An mn cn nE) := HNb.out.below hB
  replace HS := Lib.hid (HS.out.trans (hB.mono HS.out.size))
  obtain ⟨rfl, rfl, rfl, rfl, rfl⟩ : ok = false ∧ neg = false ∧ E = 0 ∧ m1 = 0 ∧ m2 = 0 := by
    rcases hq with ⟨d, h1, h2, _⟩ | ⟨_, h⟩
    · exact absurd ⟨d, h1, h2⟩ HN.out
    · exact h
  clear hl1 hl2 hb1 hb2 hB hq H3
  have HNb_0 := HNb.out.c0
  have HNb_1 := HNb.out.c1
  have HNb_2 := HNb.out.c2
  have H4 := Lib.hid (rright_l false ng An mn cn dn nE w3 HNd.out.1 HNd.out.2.1 (by omega) (by rw [HNd.out.2.2]; exact HR.out))
  go_wp2_with fail
  refine H4.out.mono ?_
  rintro e w4 ⟨rfl, hB⟩
  clear HNb_0 HNb_1 HNb_2
  replace HT : Hid (Tab w4) := HT.out.below hB
  replace HXl : Hid (Lim w4 A n c xs) := HXl.out.below hB
  replace HX : Hid (Bd w4 w.heap.size 24 g A n c e0) := HX.out.below hB
  replace HNd : Hid (Dig w4 An mn cn dn ∧ D.Bare dn ∧ D.val dn = nV) := ⟨HNd.out.1.below hB, HNd.out.2⟩
  replace HNb : Hid (Bd w4 w2.heap.size 28 ng An mn cn nE) := HNb.out.below hB
  replace HS := Lib.hid (HS.out.trans (hB.mono HS.out.size))
  clear hB H4
  have Hfin := Lib.hid HS.out
  clear HS HO HN HR HT HXl HX HNd HNb
  go_wp2
  go_ret
  exact ⟨rfl, Hfin.out⟩

set_option maxHeartbeats 8000000 in
set_option maxRecDepth 20000 in
theorem lnear_neg (g : Bool) (A : Option Addr) (n c : Nat) (xs : List Nat) (e0 : Int) (w : World) (hT : Tab w) (hA : Lim w A n c xs) (hl : n ≤ 70) (hr : RightP (nO g (val xs) e0).neg (nO g (val xs) e0).V (nO g (val xs) e0).e) (hs : npN (nO g (val xs) e0).V = true) :
    Calls Tryd.prog 3 #[.agg #[.bool g, .slice A n c, .int .i64 e0]] w fun e w' => e = .returned (.bool true) ∧ Below w.heap.size w w' := by
  obtain ⟨⟨ng, nV, nE⟩, hO⟩ : ∃ o, nO g (val xs) e0 = o := ⟨_, rfl⟩
  have hRL := right_log hO
  dsimp only at hRL
  rw [hO] at hr
  dsimp only at hr
  have a1 := below1 w (.cells #[.bool g, .slice A n c, .int .i64 e0] 24)
  have HS := Lib.hid a1
  have HT := Lib.hid (hT.below a1)
  have HXl := Lib.hid (hA.below a1)
  have HX := Lib.hid (Bd.new w 24 g A n c e0)
  have H1 := Lib.hid (lalive_any _ HT.out)
  have HO := Lib.hid hO
  have d1 : decide ((70 : Int) < (n : Int)) = false := decide_eq_false (by omega)
  have d2 : decide (70 < n) = false := decide_eq_false (by omega)
  have HN : Hid (mk g (val xs) e0 = some ⟨ng, nV, nE⟩ ∧ LogD ⟨ng, nV, nE⟩) := hRL.1 hr
  have HR : Hid (decide (RightP ng nV nE) = true) := decide_eq_true hr
  have HP : Hid (nV ≠ 0 ∧ npN nV = true ∧ blen nV ≤ 4000) := ⟨hr.2.2.1, by rw [hO] at hs; exact hs, hr.2.2.2.1⟩
  have hE := logd_exp (hRL.1 hr).2
  dsimp only at hE
  have hE1 := hE.1
  have hE2 := hE.2.1
  have hEa := (hRL.1 hr).2.1.1
  have hEb := (hRL.1 hr).2.1.2.1
  dsimp only at hEa hEb
  clear hT hA a1 hO hRL hr hs hE
  go_enter Tryd.func3, Tryd.ntmps3
  go_wp2_with fail
  refine H1.out.mono ?_
  rintro e w1 ⟨rfl, hB⟩
  replace HT : Hid (Tab w1) := HT.out.below hB
  replace HXl : Hid (Lim w1 A n c xs) := HXl.out.below hB
  replace HX : Hid (Bd w1 w.heap.size 24 g A n c e0) := HX.out.below hB
  replace HS := Lib.hid (HS.out.trans (hB.mono HS.out.size))
  clear hB H1
  have HX_0 := HX.out.c0
  have HX_1 := HX.out.c1
  have HX_2 := HX.out.c2
  have H2 := rof_any g A n c xs e0 w1 HXl.out (by omega)
  rw [HO.out] at H2
  replace H2 := Lib.hid H2
  go_wp2_with fail
  refine H2.out.mono ?_
  rintro e w2 ⟨An, mn, cn, dn, rfl, hmn, hln, hbn, hvn, hB⟩
  clear HX_0 HX_1 HX_2
  replace HT : Hid (Tab w2) := HT.out.below hB
  replace HXl : Hid (Lim w2 A n c xs) := HXl.out.below hB
  replace HX : Hid (Bd w2 w.heap.size 24 g A n c e0) := HX.out.below hB
  replace HS := Lib.hid (HS.out.trans (hB.mono HS.out.size))
  dsimp only at hvn
  have HNd : Hid (Dig w2 An mn cn dn ∧ D.Bare dn ∧ D.val dn = nV) := ⟨hln, hbn, hvn⟩
  clear hln hbn hvn hB H2
  have ba := below1 w2 (.cells #[.bool ng, .slice An mn cn, .int .i64 nE] 28)
  replace HT : Hid (Tab (w2.alloc (.cells #[.bool ng, .slice An mn cn, .int .i64 nE] 28))) := HT.out.below ba
  replace HXl : Hid (Lim (w2.alloc (.cells #[.bool ng, .slice An mn cn, .int .i64 nE] 28)) A n c xs) := HXl.out.below ba
  replace HX : Hid (Bd (w2.alloc (.cells #[.bool ng, .slice An mn cn, .int .i64 nE] 28)) w.heap.size 24 g A n c e0) := HX.out.below ba
  replace HNd : Hid (Dig (w2.alloc (.cells #[.bool ng, .slice An mn cn, .int .i64 nE] 28)) An mn cn dn ∧ D.Bare dn ∧ D.val dn = nV) := ⟨HNd.out.1.below ba, HNd.out.2⟩
  replace HS := Lib.hid (HS.out.trans (ba.mono HS.out.size))
  clear ba
  have HNb : Hid (Bd (w2.alloc (.cells #[.bool ng, .slice An mn cn, .int .i64 nE] 28)) w2.heap.size 28 ng An mn cn nE) := Bd.new w2 28 ng An mn cn nE
  have HX_0 := HX.out.c0
  have HX_1 := HX.out.c1
  have HX_2 := HX.out.c2
  have H3 := Lib.hid (near_l g A n c xs e0 (w2.alloc (.cells #[.bool ng, .slice An mn cn, .int .i64 nE] 28)) HXl.out (by omega) HT.out)
  go_wp2_with fail
  refine H3.out.mono ?_
  rintro e w3 ⟨A1, m1, c1, zs, A2, m2, c2, us, neg, E, ok, rfl, hm1, hm2, hl1, hl2, hb1, hb2, hB, hq⟩
  clear HX_0 HX_1 HX_2
  replace HT : Hid (Tab w3) := HT.out.below hB
  replace HXl : Hid (Lim w3 A n c xs) := HXl.out.below hB
  replace HX : Hid (Bd w3 w.heap.size 24 g A n c e0) := HX.out.below hB
  replace HNd : Hid (Dig w3 An mn cn dn ∧ D.Bare dn ∧ D.val dn = nV) := ⟨HNd.out.1.below hB, HNd.out.2⟩
  replace HNb : Hid (Bd w3 w2.heap.size 28 ng An mn cn nE) := HNb.out.below hB
  replace HS := Lib.hid (HS.out.trans (hB.mono HS.out.size))
  obtain ⟨rfl, rfl, hEE, hX, hY⟩ : ok = true ∧ neg = true ∧ E = nE + npE nV ∧ val zs = npX nV ∧ val us = npY nV := by
    rcases hq with ⟨d, h1, h2, h3, h4, h5, h6, h7⟩ | ⟨h, _⟩
    · rw [HN.out.1] at h1
      cases h1
      exact ⟨h3, by rw [h4]; exact HP.out.2.1, h5, h6, h7⟩
    · exact absurd ⟨_, HN.out⟩ h
  have H1l : Hid (Lim w3 A1 m1 c1 zs) := hl1
  have H2l : Hid (Lim w3 A2 m2 c2 us) := hl2
  have HXY : Hid (val zs = npX nV ∧ val us = npY nV ∧ E = nE + npE nV) := ⟨hX, hY, hEE⟩
  clear hX hY hEE
  clear hl1 hl2 hb1 hb2 hB hq H3
  have HNb_0 := HNb.out.c0
  have HNb_1 := HNb.out.c1
  have HNb_2 := HNb.out.c2
  have H4 := Lib.hid (rright_l true ng An mn cn dn nE w3 HNd.out.1 HNd.out.2.1 (by omega) (by rw [HNd.out.2.2]; exact HR.out))
  go_wp2_with fail
  refine H4.out.mono ?_
  rintro e w4 ⟨rfl, hB⟩
  clear HNb_0 HNb_1 HNb_2
  replace HT : Hid (Tab w4) := HT.out.below hB
  replace HXl : Hid (Lim w4 A n c xs) := HXl.out.below hB
  replace HX : Hid (Bd w4 w.heap.size 24 g A n c e0) := HX.out.below hB
  replace HNd : Hid (Dig w4 An mn cn dn ∧ D.Bare dn ∧ D.val dn = nV) := ⟨HNd.out.1.below hB, HNd.out.2⟩
  replace HNb : Hid (Bd w4 w2.heap.size 28 ng An mn cn nE) := HNb.out.below hB
  replace H1l : Hid (Lim w4 A1 m1 c1 zs) := H1l.out.below hB
  replace H2l : Hid (Lim w4 A2 m2 c2 us) := H2l.out.below hB
  replace HS := Lib.hid (HS.out.trans (hB.mono HS.out.size))
  clear hB H4
  clear HR HN HO
  clear HX HXl
  have H5 := to_any A1 m1 c1 zs w4 H1l.out (by omega)
  rw [HXY.out.1] at H5
  replace H5 := Lib.hid H5
  go_wp2_with fail
  refine H5.out.mono ?_
  rintro e w5 ⟨A5, m5, c5, d5, rfl, hm5, hl5, hb5, hv5, hB⟩
  replace HT : Hid (Tab w5) := HT.out.below hB
  replace HNd : Hid (Dig w5 An mn cn dn ∧ D.Bare dn ∧ D.val dn = nV) := ⟨HNd.out.1.below hB, HNd.out.2⟩
  replace HNb : Hid (Bd w5 w2.heap.size 28 ng An mn cn nE) := HNb.out.below hB
  replace H1l : Hid (Lim w5 A1 m1 c1 zs) := H1l.out.below hB
  replace H2l : Hid (Lim w5 A2 m2 c2 us) := H2l.out.below hB
  replace HS := Lib.hid (HS.out.trans (hB.mono HS.out.size))
  have Hx : Hid (Dig w5 A5 m5 c5 d5 ∧ D.Bare d5 ∧ D.val d5 = npX nV) := ⟨hl5, hb5, hv5⟩
  clear hl5 hb5 hv5 hB H5
  clear H1l
  have H5 := to_any A2 m2 c2 us w5 H2l.out (by omega)
  rw [HXY.out.2.1] at H5
  replace H5 := Lib.hid H5
  go_wp2_with fail
  refine H5.out.mono ?_
  rintro e w6 ⟨A6, m6, c6, d6, rfl, hm6, hl6, hb6, hv6, hB⟩
  replace HT : Hid (Tab w6) := HT.out.below hB
  replace HNd : Hid (Dig w6 An mn cn dn ∧ D.Bare dn ∧ D.val dn = nV) := ⟨HNd.out.1.below hB, HNd.out.2⟩
  replace HNb : Hid (Bd w6 w2.heap.size 28 ng An mn cn nE) := HNb.out.below hB
  replace H2l : Hid (Lim w6 A2 m2 c2 us) := H2l.out.below hB
  replace Hx : Hid (Dig w6 A5 m5 c5 d5 ∧ D.Bare d5 ∧ D.val d5 = npX nV) := ⟨Hx.out.1.below hB, Hx.out.2⟩
  replace HS := Lib.hid (HS.out.trans (hB.mono HS.out.size))
  have Hy : Hid (Dig w6 A6 m6 c6 d6 ∧ D.Bare d6 ∧ D.val d6 = npY nV) := ⟨hl6, hb6, hv6⟩
  clear hl6 hb6 hv6 hB H5
  clear H2l
  obtain ⟨X, hX⟩ : ∃ X, npX nV = X := ⟨_, rfl⟩
  obtain ⟨Y, hY⟩ : ∃ Y, npY nV = Y := ⟨_, rfl⟩
  rw [hX] at Hx
  rw [hY] at Hy
  obtain ⟨Q, hQ⟩ : ∃ Q, npP nV = Q := ⟨_, rfl⟩
  obtain ⟨hb, hhb⟩ : ∃ p, 2 ^ (blen nV - 1) = p := ⟨_, rfl⟩
  have hF : 3 * X ≤ Y ∧ Y + X = 2 * Q ∧ Y - X = 2 * nV ∧ X ≤ Y ∧ Q = hb + hb ∧ 3 * hb ≤ 2 * nV ∧ nV < Q := by
    have t := np_third HP.out.1
    have u := np_neg HP.out.1 HP.out.2.1
    have v := (np_half HP.out.1).1 HP.out.2.1
    rw [hX, hY] at t u
    rw [hQ] at u v
    rw [hhb] at v
    exact ⟨t.1, u.1, u.2.1, by omega, v.1, v.2, u.2.2.2.2.2⟩
  have HF := Lib.hid hF
  obtain ⟨ne, hne⟩ : ∃ k, npE nV = k := ⟨_, rfl⟩
  obtain ⟨bl, hbl⟩ : ∃ k, blen nV = k := ⟨_, rfl⟩
  have hnb := np_blen HP.out.1 HP.out.2.2
  rw [hbl, hne] at hnb
  have hbp := blen_pos HP.out.1
  rw [hbl] at hbp
  have hbq := np_blenP nV
  rw [hQ, hne] at hbq
  rw [hbl] at hhb
  have hb4 := HP.out.2.2
  rw [hbl] at hb4
  have HEE : Hid (E = nE + (ne : Int)) := by show _ = _; have h := HXY.out.2.2; rw [hne] at h; exact h
  rw [hne] at hE1 hE2
  obtain ⟨k, hk⟩ : ∃ k, bl - 1 = k := ⟨_, rfl⟩
  have ek : (bl : Int) - 1 = (k : Int) := by omega
  have hk9 : k ≤ 4000 := by omega
  obtain ⟨S, hS⟩ : ∃ S : Int, nE + ((ne + 1 : Nat) : Int) = S := ⟨_, rfl⟩
  obtain ⟨nb, hnbq⟩ : ∃ nb, ne + 1 = nb := ⟨_, rfl⟩
  rw [hnbq] at hS hbq
  have eS : nE + (nb : Int) = S := hS
  obtain ⟨R, hR⟩ : ∃ R : Int, S - 1 = R := ⟨_, rfl⟩
  have eR : (R == E) = true := by have := HEE.out; exact beq_yes (by omega)
  have eR2 : (R == nE + (ne : Int)) = true := beq_yes (by omega)
  have hR0 : R = nE + (ne : Int) := by omega
  have wS : IntKind.i64.wrap (nE + (nb : Int)) = S := by rw [eS, IntKind.wrap_i64]; omega
  have wS2 : IntKind.i64.wrap S = S := by rw [IntKind.wrap_i64]; omega
  have wR : IntKind.i64.wrap (S - 1) = R := by rw [hR, IntKind.wrap_i64]; omega
  have wR2 : IntKind.i64.wrap R = R := by rw [IntKind.wrap_i64]; omega
  rw [hk] at hhb
  have HK : Hid (2 ^ k = hb ∧ blen nV = bl ∧ blen Q = nb) := ⟨hhb, hbl, hbq⟩
  clear hF hX hY hQ hne hbl hnb hbp hbq hhb hb4 hk HXY HEE HP hS hnbq hR0
  have H6 := radd_any A5 m5 c5 d5 A5 m5 c5 d5 w6 Hx.out.1 Hx.out.1 Hx.out.2.1 Hx.out.2.1 (by omega) (by omega)
  rw [Hx.out.2.2] at H6
  replace H6 := Lib.hid H6
  go_wp2_with fail
  refine H6.out.mono ?_
  rintro e w7 ⟨A7, m7, c7, d7, rfl, hm7, hl7, hb7, hv7, hB⟩
  replace HT : Hid (Tab w7) := HT.out.below hB
  replace HNd : Hid (Dig w7 An mn cn dn ∧ D.Bare dn ∧ D.val dn = nV) := ⟨HNd.out.1.below hB, HNd.out.2⟩
  replace HNb : Hid (Bd w7 w2.heap.size 28 ng An mn cn nE) := HNb.out.below hB
  replace Hx : Hid (Dig w7 A5 m5 c5 d5 ∧ D.Bare d5 ∧ D.val d5 = X) := ⟨Hx.out.1.below hB, Hx.out.2⟩
  replace Hy : Hid (Dig w7 A6 m6 c6 d6 ∧ D.Bare d6 ∧ D.val d6 = Y) := ⟨Hy.out.1.below hB, Hy.out.2⟩
  replace HS := Lib.hid (HS.out.trans (hB.mono HS.out.size))
  have Hx2 : Hid (Dig w7 A7 m7 c7 d7 ∧ D.Bare d7 ∧ D.val d7 = X + X) := ⟨hl7, hb7, hv7⟩
  clear hl7 hb7 hv7 hB H6
  have H6 := radd_any A5 m5 c5 d5 A7 m7 c7 d7 w7 Hx.out.1 Hx2.out.1 Hx.out.2.1 Hx2.out.2.1 (by omega) (by omega)
  rw [Hx.out.2.2, Hx2.out.2.2] at H6
  replace H6 := Lib.hid H6
  go_wp2_with fail
  refine H6.out.mono ?_
  rintro e w8 ⟨A8, m8, c8, d8, rfl, hm8, hl8, hb8, hv8, hB⟩
  replace HT : Hid (Tab w8) := HT.out.below hB
  replace HNd : Hid (Dig w8 An mn cn dn ∧ D.Bare dn ∧ D.val dn = nV) := ⟨HNd.out.1.below hB, HNd.out.2⟩
  replace HNb : Hid (Bd w8 w2.heap.size 28 ng An mn cn nE) := HNb.out.below hB
  replace Hx : Hid (Dig w8 A5 m5 c5 d5 ∧ D.Bare d5 ∧ D.val d5 = X) := ⟨Hx.out.1.below hB, Hx.out.2⟩
  replace Hy : Hid (Dig w8 A6 m6 c6 d6 ∧ D.Bare d6 ∧ D.val d6 = Y) := ⟨Hy.out.1.below hB, Hy.out.2⟩
  replace Hx2 : Hid (Dig w8 A7 m7 c7 d7 ∧ D.Bare d7 ∧ D.val d7 = X + X) := ⟨Hx2.out.1.below hB, Hx2.out.2⟩
  replace HS := Lib.hid (HS.out.trans (hB.mono HS.out.size))
  have Hx3 : Hid (Dig w8 A8 m8 c8 d8 ∧ D.Bare d8 ∧ D.val d8 = X + (X + X)) := ⟨hl8, hb8, hv8⟩
  clear hl8 hb8 hv8 hB H6
  clear Hx2
  obtain ⟨va, hva⟩ : ∃ v, cmpZ (X + (X + X)) (Y) = v := ⟨_, rfl⟩
  have cva : decide ((0 : Int) < va) = false := by rw [← hva]; exact decide_eq_false (by have := cmpZ_down (show X + (X + X) ≤ Y by have := HF.out.1; omega); omega)
  have H7 := Lib.hid (rcmp_v va A8 m8 c8 d8 A6 m6 c6 d6 w8 Hx3.out.1 Hy.out.1 Hx3.out.2.1 Hy.out.2.1 (by omega) (by omega) (by rw [Hx3.out.2.2, Hy.out.2.2]; exact hva))
  clear hva
  go_wp2_with fail
  refine H7.out.mono ?_
  rintro e w9 ⟨rfl, hB⟩
  replace HT : Hid (Tab w9) := HT.out.below hB
  replace HNd : Hid (Dig w9 An mn cn dn ∧ D.Bare dn ∧ D.val dn = nV) := ⟨HNd.out.1.below hB, HNd.out.2⟩
  replace HNb : Hid (Bd w9 w2.heap.size 28 ng An mn cn nE) := HNb.out.below hB
  replace Hx : Hid (Dig w9 A5 m5 c5 d5 ∧ D.Bare d5 ∧ D.val d5 = X) := ⟨Hx.out.1.below hB, Hx.out.2⟩
  replace Hy : Hid (Dig w9 A6 m6 c6 d6 ∧ D.Bare d6 ∧ D.val d6 = Y) := ⟨Hy.out.1.below hB, Hy.out.2⟩
  replace Hx3 : Hid (Dig w9 A8 m8 c8 d8 ∧ D.Bare d8 ∧ D.val d8 = X + (X + X)) := ⟨Hx3.out.1.below hB, Hx3.out.2⟩
  replace HS := Lib.hid (HS.out.trans (hB.mono HS.out.size))
  clear hB H7
  clear Hx3
  have H6 := radd_any A6 m6 c6 d6 A5 m5 c5 d5 w9 Hy.out.1 Hx.out.1 Hy.out.2.1 Hx.out.2.1 (by omega) (by omega)
  rw [Hy.out.2.2, Hx.out.2.2] at H6
  replace H6 := Lib.hid H6
  go_wp2_with fail
  refine H6.out.mono ?_
  rintro e w10 ⟨A10, m10, c10, d10, rfl, hm10, hl10, hb10, hv10, hB⟩
  replace HT : Hid (Tab w10) := HT.out.below hB
  replace HNd : Hid (Dig w10 An mn cn dn ∧ D.Bare dn ∧ D.val dn = nV) := ⟨HNd.out.1.below hB, HNd.out.2⟩
  replace HNb : Hid (Bd w10 w2.heap.size 28 ng An mn cn nE) := HNb.out.below hB
  replace Hx : Hid (Dig w10 A5 m5 c5 d5 ∧ D.Bare d5 ∧ D.val d5 = X) := ⟨Hx.out.1.below hB, Hx.out.2⟩
  replace Hy : Hid (Dig w10 A6 m6 c6 d6 ∧ D.Bare d6 ∧ D.val d6 = Y) := ⟨Hy.out.1.below hB, Hy.out.2⟩
  replace HS := Lib.hid (HS.out.trans (hB.mono HS.out.size))
  have Hup : Hid (Dig w10 A10 m10 c10 d10 ∧ D.Bare d10 ∧ D.val d10 = Y + X) := ⟨hl10, hb10, hv10⟩
  clear hl10 hb10 hv10 hB H6
  have H6 := rsub_any A6 m6 c6 d6 A5 m5 c5 d5 w10 Hy.out.1 Hx.out.1 Hx.out.2.1 (by rw [Hy.out.2.2, Hx.out.2.2]; exact HF.out.2.2.2.1) (by omega) (by omega)
  rw [Hy.out.2.2, Hx.out.2.2] at H6
  replace H6 := Lib.hid H6
  go_wp2_with fail
  refine H6.out.mono ?_
  rintro e w11 ⟨A11, m11, c11, d11, rfl, hm11, hl11, hb11, hv11, hB⟩
  replace HT : Hid (Tab w11) := HT.out.below hB
  replace HNd : Hid (Dig w11 An mn cn dn ∧ D.Bare dn ∧ D.val dn = nV) := ⟨HNd.out.1.below hB, HNd.out.2⟩
  replace HNb : Hid (Bd w11 w2.heap.size 28 ng An mn cn nE) := HNb.out.below hB
  replace Hx : Hid (Dig w11 A5 m5 c5 d5 ∧ D.Bare d5 ∧ D.val d5 = X) := ⟨Hx.out.1.below hB, Hx.out.2⟩
  replace Hy : Hid (Dig w11 A6 m6 c6 d6 ∧ D.Bare d6 ∧ D.val d6 = Y) := ⟨Hy.out.1.below hB, Hy.out.2⟩
  replace Hup : Hid (Dig w11 A10 m10 c10 d10 ∧ D.Bare d10 ∧ D.val d10 = Y + X) := ⟨Hup.out.1.below hB, Hup.out.2⟩
  replace HS := Lib.hid (HS.out.trans (hB.mono HS.out.size))
  have Hdn : Hid (Dig w11 A11 m11 c11 d11 ∧ D.Bare d11 ∧ D.val d11 = Y - X) := ⟨hl11, hb11, hv11⟩
  clear hl11 hb11 hv11 hB H6
  clear Hx Hy
  rw [HF.out.2.1] at Hup
  rw [HF.out.2.2.1] at Hdn
  have HNb_0 := HNb.out.c0
  have HNb_1 := HNb.out.c1
  have HNb_2 := HNb.out.c2
  have H8 := Lib.hid (lrbits bl An mn cn dn w11 HNd.out.1 HNd.out.2.1 (by omega) (by rw [HNd.out.2.2]; exact HK.out.2.1))
  go_wp2_with fail
  refine H8.out.mono ?_
  rintro e w' ⟨rfl, rfl⟩
  clear H8
  have H9 := Lib.hid (num_any 1 (by decide) w11)
  go_wp2_with fail
  refine H9.out.mono ?_
  rintro e w12 ⟨A12, m12, c12, d12, rfl, hm12, hl12, hb12, hv12, hB⟩
  clear HNb_0 HNb_1 HNb_2
  replace HT : Hid (Tab w12) := HT.out.below hB
  replace HNd : Hid (Dig w12 An mn cn dn ∧ D.Bare dn ∧ D.val dn = nV) := ⟨HNd.out.1.below hB, HNd.out.2⟩
  replace HNb : Hid (Bd w12 w2.heap.size 28 ng An mn cn nE) := HNb.out.below hB
  replace Hup : Hid (Dig w12 A10 m10 c10 d10 ∧ D.Bare d10 ∧ D.val d10 = 2 * Q) := ⟨Hup.out.1.below hB, Hup.out.2⟩
  replace Hdn : Hid (Dig w12 A11 m11 c11 d11 ∧ D.Bare d11 ∧ D.val d11 = 2 * nV) := ⟨Hdn.out.1.below hB, Hdn.out.2⟩
  replace HS := Lib.hid (HS.out.trans (hB.mono HS.out.size))
  have H1 : Hid (Dig w12 A12 m12 c12 d12 ∧ D.Bare d12 ∧ D.val d12 = 1) := ⟨hl12, hb12, hv12⟩
  clear hl12 hb12 hv12 hB H9
  have H10 := rshl_any A12 m12 c12 d12 k w12 H1.out.1 H1.out.2.1 (by omega) (by omega)
  rw [H1.out.2.2, Nat.one_mul, HK.out.1] at H10
  replace H10 := Lib.hid H10
  go_wp2_with fail
  refine H10.out.mono ?_
  rintro e w13 ⟨A13, m13, c13, d13, rfl, hm13, hl13, hb13, hv13, hB⟩
  replace HT : Hid (Tab w13) := HT.out.below hB
  replace HNd : Hid (Dig w13 An mn cn dn ∧ D.Bare dn ∧ D.val dn = nV) := ⟨HNd.out.1.below hB, HNd.out.2⟩
  replace HNb : Hid (Bd w13 w2.heap.size 28 ng An mn cn nE) := HNb.out.below hB
  replace Hup : Hid (Dig w13 A10 m10 c10 d10 ∧ D.Bare d10 ∧ D.val d10 = 2 * Q) := ⟨Hup.out.1.below hB, Hup.out.2⟩
  replace Hdn : Hid (Dig w13 A11 m11 c11 d11 ∧ D.Bare d11 ∧ D.val d11 = 2 * nV) := ⟨Hdn.out.1.below hB, Hdn.out.2⟩
  replace H1 : Hid (Dig w13 A12 m12 c12 d12 ∧ D.Bare d12 ∧ D.val d12 = 1) := ⟨H1.out.1.below hB, H1.out.2⟩
  replace HS := Lib.hid (HS.out.trans (hB.mono HS.out.size))
  have Hhb : Hid (Dig w13 A13 m13 c13 d13 ∧ D.Bare d13 ∧ D.val d13 = hb) := ⟨hl13, hb13, hv13⟩
  clear hl13 hb13 hv13 hB H10
  clear H1
  have HNb_0 := HNb.out.c0
  have HNb_1 := HNb.out.c1
  have HNb_2 := HNb.out.c2
  have H6 := radd_any An mn cn dn An mn cn dn w13 HNd.out.1 HNd.out.1 HNd.out.2.1 HNd.out.2.1 (by omega) (by omega)
  rw [HNd.out.2.2] at H6
  replace H6 := Lib.hid H6
  go_wp2_with fail
  refine H6.out.mono ?_
  rintro e w14 ⟨A14, m14, c14, d14, rfl, hm14, hl14, hb14, hv14, hB⟩
  clear HNb_0 HNb_1 HNb_2
  replace HT : Hid (Tab w14) := HT.out.below hB
  replace HNd : Hid (Dig w14 An mn cn dn ∧ D.Bare dn ∧ D.val dn = nV) := ⟨HNd.out.1.below hB, HNd.out.2⟩
  replace HNb : Hid (Bd w14 w2.heap.size 28 ng An mn cn nE) := HNb.out.below hB
  replace Hup : Hid (Dig w14 A10 m10 c10 d10 ∧ D.Bare d10 ∧ D.val d10 = 2 * Q) := ⟨Hup.out.1.below hB, Hup.out.2⟩
  replace Hdn : Hid (Dig w14 A11 m11 c11 d11 ∧ D.Bare d11 ∧ D.val d11 = 2 * nV) := ⟨Hdn.out.1.below hB, Hdn.out.2⟩
  replace Hhb : Hid (Dig w14 A13 m13 c13 d13 ∧ D.Bare d13 ∧ D.val d13 = hb) := ⟨Hhb.out.1.below hB, Hhb.out.2⟩
  replace HS := Lib.hid (HS.out.trans (hB.mono HS.out.size))
  have Hv2 : Hid (Dig w14 A14 m14 c14 d14 ∧ D.Bare d14 ∧ D.val d14 = nV + nV) := ⟨hl14, hb14, hv14⟩
  clear hl14 hb14 hv14 hB H6
  have H6 := radd_any A13 m13 c13 d13 A13 m13 c13 d13 w14 Hhb.out.1 Hhb.out.1 Hhb.out.2.1 Hhb.out.2.1 (by omega) (by omega)
  rw [Hhb.out.2.2] at H6
  replace H6 := Lib.hid H6
  go_wp2_with fail
  refine H6.out.mono ?_
  rintro e w15 ⟨A15, m15, c15, d15, rfl, hm15, hl15, hb15, hv15, hB⟩
  replace HT : Hid (Tab w15) := HT.out.below hB
  replace HNd : Hid (Dig w15 An mn cn dn ∧ D.Bare dn ∧ D.val dn = nV) := ⟨HNd.out.1.below hB, HNd.out.2⟩
  replace HNb : Hid (Bd w15 w2.heap.size 28 ng An mn cn nE) := HNb.out.below hB
  replace Hup : Hid (Dig w15 A10 m10 c10 d10 ∧ D.Bare d10 ∧ D.val d10 = 2 * Q) := ⟨Hup.out.1.below hB, Hup.out.2⟩
  replace Hdn : Hid (Dig w15 A11 m11 c11 d11 ∧ D.Bare d11 ∧ D.val d11 = 2 * nV) := ⟨Hdn.out.1.below hB, Hdn.out.2⟩
  replace Hhb : Hid (Dig w15 A13 m13 c13 d13 ∧ D.Bare d13 ∧ D.val d13 = hb) := ⟨Hhb.out.1.below hB, Hhb.out.2⟩
  replace Hv2 : Hid (Dig w15 A14 m14 c14 d14 ∧ D.Bare d14 ∧ D.val d14 = nV + nV) := ⟨Hv2.out.1.below hB, Hv2.out.2⟩
  replace HS := Lib.hid (HS.out.trans (hB.mono HS.out.size))
  have Hh2 : Hid (Dig w15 A15 m15 c15 d15 ∧ D.Bare d15 ∧ D.val d15 = hb + hb) := ⟨hl15, hb15, hv15⟩
  clear hl15 hb15 hv15 hB H6
  have H6 := radd_any A13 m13 c13 d13 A15 m15 c15 d15 w15 Hhb.out.1 Hh2.out.1 Hhb.out.2.1 Hh2.out.2.1 (by omega) (by omega)
  rw [Hhb.out.2.2, Hh2.out.2.2] at H6
  replace H6 := Lib.hid H6
  go_wp2_with fail
  refine H6.out.mono ?_
  rintro e w16 ⟨A16, m16, c16, d16, rfl, hm16, hl16, hb16, hv16, hB⟩
  replace HT : Hid (Tab w16) := HT.out.below hB
  replace HNd : Hid (Dig w16 An mn cn dn ∧ D.Bare dn ∧ D.val dn = nV) := ⟨HNd.out.1.below hB, HNd.out.2⟩
  replace HNb : Hid (Bd w16 w2.heap.size 28 ng An mn cn nE) := HNb.out.below hB
  replace Hup : Hid (Dig w16 A10 m10 c10 d10 ∧ D.Bare d10 ∧ D.val d10 = 2 * Q) := ⟨Hup.out.1.below hB, Hup.out.2⟩
  replace Hdn : Hid (Dig w16 A11 m11 c11 d11 ∧ D.Bare d11 ∧ D.val d11 = 2 * nV) := ⟨Hdn.out.1.below hB, Hdn.out.2⟩
  replace Hhb : Hid (Dig w16 A13 m13 c13 d13 ∧ D.Bare d13 ∧ D.val d13 = hb) := ⟨Hhb.out.1.below hB, Hhb.out.2⟩
  replace Hv2 : Hid (Dig w16 A14 m14 c14 d14 ∧ D.Bare d14 ∧ D.val d14 = nV + nV) := ⟨Hv2.out.1.below hB, Hv2.out.2⟩
  replace Hh2 : Hid (Dig w16 A15 m15 c15 d15 ∧ D.Bare d15 ∧ D.val d15 = hb + hb) := ⟨Hh2.out.1.below hB, Hh2.out.2⟩
  replace HS := Lib.hid (HS.out.trans (hB.mono HS.out.size))
  have Hh3 : Hid (Dig w16 A16 m16 c16 d16 ∧ D.Bare d16 ∧ D.val d16 = hb + (hb + hb)) := ⟨hl16, hb16, hv16⟩
  clear hl16 hb16 hv16 hB H6
  obtain ⟨vb, hvb⟩ : ∃ v, cmpZ (nV + nV) (hb + (hb + hb)) = v := ⟨_, rfl⟩
  have cvb : decide ((0 : Int) ≤ vb) = true := by rw [← hvb]; exact decide_eq_true (cmpZ_up (by have := HF.out.2.2.2.2.2.1; omega))
  have H7 := Lib.hid (rcmp_v vb A14 m14 c14 d14 A16 m16 c16 d16 w16 Hv2.out.1 Hh3.out.1 Hv2.out.2.1 Hh3.out.2.1 (by omega) (by omega) (by rw [Hv2.out.2.2, Hh3.out.2.2]; exact hvb))
  clear hvb
  go_wp2_with fail
  refine H7.out.mono ?_
  rintro e w17 ⟨rfl, hB⟩
  replace HT : Hid (Tab w17) := HT.out.below hB
  replace HNd : Hid (Dig w17 An mn cn dn ∧ D.Bare dn ∧ D.val dn = nV) := ⟨HNd.out.1.below hB, HNd.out.2⟩
  replace HNb : Hid (Bd w17 w2.heap.size 28 ng An mn cn nE) := HNb.out.below hB
  replace Hup : Hid (Dig w17 A10 m10 c10 d10 ∧ D.Bare d10 ∧ D.val d10 = 2 * Q) := ⟨Hup.out.1.below hB, Hup.out.2⟩
  replace Hdn : Hid (Dig w17 A11 m11 c11 d11 ∧ D.Bare d11 ∧ D.val d11 = 2 * nV) := ⟨Hdn.out.1.below hB, Hdn.out.2⟩
  replace Hhb : Hid (Dig w17 A13 m13 c13 d13 ∧ D.Bare d13 ∧ D.val d13 = hb) := ⟨Hhb.out.1.below hB, Hhb.out.2⟩
  replace Hv2 : Hid (Dig w17 A14 m14 c14 d14 ∧ D.Bare d14 ∧ D.val d14 = nV + nV) := ⟨Hv2.out.1.below hB, Hv2.out.2⟩
  replace Hh2 : Hid (Dig w17 A15 m15 c15 d15 ∧ D.Bare d15 ∧ D.val d15 = hb + hb) := ⟨Hh2.out.1.below hB, Hh2.out.2⟩
  replace Hh3 : Hid (Dig w17 A16 m16 c16 d16 ∧ D.Bare d16 ∧ D.val d16 = hb + (hb + hb)) := ⟨Hh3.out.1.below hB, Hh3.out.2⟩
  replace HS := Lib.hid (HS.out.trans (hB.mono HS.out.size))
  clear hB H7
  clear Hv2 Hh2 Hh3
  have H6 := radd_any A13 m13 c13 d13 A13 m13 c13 d13 w17 Hhb.out.1 Hhb.out.1 Hhb.out.2.1 Hhb.out.2.1 (by omega) (by omega)
  rw [Hhb.out.2.2] at H6
  replace H6 := Lib.hid H6
  go_wp2_with fail
  refine H6.out.mono ?_
  rintro e w18 ⟨A18, m18, c18, d18, rfl, hm18, hl18, hb18, hv18, hB⟩
  replace HT : Hid (Tab w18) := HT.out.below hB
  replace HNd : Hid (Dig w18 An mn cn dn ∧ D.Bare dn ∧ D.val dn = nV) := ⟨HNd.out.1.below hB, HNd.out.2⟩
  replace HNb : Hid (Bd w18 w2.heap.size 28 ng An mn cn nE) := HNb.out.below hB
  replace Hup : Hid (Dig w18 A10 m10 c10 d10 ∧ D.Bare d10 ∧ D.val d10 = 2 * Q) := ⟨Hup.out.1.below hB, Hup.out.2⟩
  replace Hdn : Hid (Dig w18 A11 m11 c11 d11 ∧ D.Bare d11 ∧ D.val d11 = 2 * nV) := ⟨Hdn.out.1.below hB, Hdn.out.2⟩
  replace Hhb : Hid (Dig w18 A13 m13 c13 d13 ∧ D.Bare d13 ∧ D.val d13 = hb) := ⟨Hhb.out.1.below hB, Hhb.out.2⟩
  replace HS := Lib.hid (HS.out.trans (hB.mono HS.out.size))
  have Hone : Hid (Dig w18 A18 m18 c18 d18 ∧ D.Bare d18 ∧ D.val d18 = hb + hb) := ⟨hl18, hb18, hv18⟩
  clear hl18 hb18 hv18 hB H6
  clear Hhb
  rw [← HF.out.2.2.2.2.1] at Hone
  have bd := below_drew w18
  replace HT : Hid (Tab w18.drew) := HT.out.below bd
  replace HNd : Hid (Dig w18.drew An mn cn dn ∧ D.Bare dn ∧ D.val dn = nV) := ⟨HNd.out.1.below bd, HNd.out.2⟩
  replace HNb : Hid (Bd w18.drew w2.heap.size 28 ng An mn cn nE) := HNb.out.below bd
  replace Hup : Hid (Dig w18.drew A10 m10 c10 d10 ∧ D.Bare d10 ∧ D.val d10 = 2 * Q) := ⟨Hup.out.1.below bd, Hup.out.2⟩
  replace Hdn : Hid (Dig w18.drew A11 m11 c11 d11 ∧ D.Bare d11 ∧ D.val d11 = 2 * nV) := ⟨Hdn.out.1.below bd, Hdn.out.2⟩
  replace Hone : Hid (Dig w18.drew A18 m18 c18 d18 ∧ D.Bare d18 ∧ D.val d18 = Q) := ⟨Hone.out.1.below bd, Hone.out.2⟩
  replace HS := Lib.hid (HS.out.trans (bd.mono HS.out.size))
  clear bd
  obtain ⟨vd, hvd⟩ : ∃ v, cmpZ nV Q = v := ⟨_, rfl⟩
  have cvd : decide (vd < (0 : Int)) = true := by rw [← hvd]; exact decide_eq_true (by rw [cmpZ_lt HF.out.2.2.2.2.2.2]; decide)
  have Ka : Hid (∀ u, Below w18.drew.heap.size w18.drew u → Calls Tryd.prog 11 #[.slice An mn cn, .slice An mn cn] u (DTells u (2 * nV) 100100)) := fun u hu => by have h := radd_any An mn cn dn An mn cn dn u (HNd.out.1.below hu) (HNd.out.1.below hu) HNd.out.2.1 HNd.out.2.1 (by omega) (by omega); rw [HNd.out.2.2, ← Nat.two_mul] at h; exact h.mono fun e w' ⟨A, m, c, ds, k1, k2, k3⟩ => ⟨A, m, c, ds, k1, by omega, k3⟩
  have Kb : Hid (∀ u, Below w18.drew.heap.size w18.drew u → Calls Tryd.prog 11 #[.slice A18 m18 c18, .slice A18 m18 c18] u (DTells u (2 * Q) 100100)) := fun u hu => by have h := radd_any A18 m18 c18 d18 A18 m18 c18 d18 u (Hone.out.1.below hu) (Hone.out.1.below hu) Hone.out.2.1 Hone.out.2.1 (by omega) (by omega); rw [Hone.out.2.2, ← Nat.two_mul] at h; exact h.mono fun e w' ⟨A, m, c, ds, k1, k2, k3⟩ => ⟨A, m, c, ds, k1, by omega, k3⟩
  have Kc : Hid (∀ u A m c es, Below w18.drew.heap.size w18.drew u → Dig u A m c es → D.Bare es → D.val es = 2 * nV → m ≤ 100100 → Calls Tryd.prog 12 #[.slice A11 m11 c11, .slice A m c] u fun e w' => e = .returned (.int .i64 0) ∧ Below u.heap.size u w') := fun u A m c es hu h1 h2 h3 h4 => rcmp_v 0 A11 m11 c11 d11 A m c es u (Hdn.out.1.below hu) h1 Hdn.out.2.1 h2 (by omega) (by omega) (by rw [Hdn.out.2.2, h3]; exact cmpZ_eq rfl)
  have Kd : Hid (∀ u A m c es, Below w18.drew.heap.size w18.drew u → Dig u A m c es → D.Bare es → D.val es = 2 * Q → m ≤ 100100 → Calls Tryd.prog 12 #[.slice A10 m10 c10, .slice A m c] u fun e w' => e = .returned (.int .i64 0) ∧ Below u.heap.size u w') := fun u A m c es hu h1 h2 h3 h4 => rcmp_v 0 A10 m10 c10 d10 A m c es u (Hup.out.1.below hu) h1 Hup.out.2.1 h2 (by omega) (by omega) (by rw [Hup.out.2.2, h3]; exact cmpZ_eq rfl)
  have Ke : Hid (∀ u, Below w18.drew.heap.size w18.drew u → Calls Tryd.prog 14 #[.slice A18 m18 c18] u fun e w' => e = .returned (.int .i64 (nb : Int)) ∧ u = w') := fun u hu => lrbits nb A18 m18 c18 d18 u (Hone.out.1.below hu) Hone.out.2.1 (by omega) (by rw [Hone.out.2.2]; exact HK.out.2.2)
  have Kf : Hid (∀ u, Below w18.drew.heap.size w18.drew u → Calls Tryd.prog 12 #[.slice An mn cn, .slice A18 m18 c18] u fun e w' => e = .returned (.int .i64 vd) ∧ Below u.heap.size u w') := fun u hu => rcmp_v vd An mn cn dn A18 m18 c18 d18 u (HNd.out.1.below hu) (Hone.out.1.below hu) HNd.out.2.1 Hone.out.2.1 (by omega) (by omega) (by rw [HNd.out.2.2, Hone.out.2.2]; exact hvd)
  have cur := Lib.hid (Below.refl w18.drew.heap.size w18.drew)
  have HW : Hid (∀ u, Below w18.drew.heap.size w18.drew u → u.cell? ⟨w2.heap.size, 1, none⟩ = some (.slice An mn cn) ∧ u.cell? ⟨w2.heap.size, 2, none⟩ = some (.int .i64 nE)) := fun u hu => ⟨(HNb.out.below hu).c1, (HNb.out.below hu).c2⟩
  have HSd := Lib.hid HS.out
  clear hvd HK HF HS HT HNd HNb Hup Hdn Hone
  go_wp2_with fail
  go_region_held3 (fun u => u.cell? ⟨w2.heap.size, 1, none⟩ = some (.slice An mn cn) ∧ u.cell? ⟨w2.heap.size, 2, none⟩ = some (.int .i64 nE)) (with_reducible exact HW.out _ cur.out)
    (first
      | (go_at_call 11; (with_reducible refine (Ka.out _ cur.out).mono ?_); rintro e ua ⟨Aa, ma, ca, sa, rfl, hma, hla, hba, hva, hB⟩; (with_reducible (replace cur := Lib.hid (cur.out.trans (hB.mono cur.out.size)))); clear hB)
      | (go_at_call 12; (with_reducible refine (Kc.out _ Aa ma ca sa cur.out hla hba hva hma).mono ?_); rintro e ub ⟨rfl, hB⟩; (with_reducible (replace cur := Lib.hid (cur.out.trans (hB.mono cur.out.size)))); clear hB; clear hla hba hva)
      | (go_at_call 11; (with_reducible refine (Kb.out _ cur.out).mono ?_); rintro e uc ⟨Ac, mc, cc, sc, rfl, hmc, hlc, hbc, hvc, hB⟩; (with_reducible (replace cur := Lib.hid (cur.out.trans (hB.mono cur.out.size)))); clear hB)
      | (go_at_call 12; (with_reducible refine (Kd.out _ Ac mc cc sc cur.out hlc hbc hvc hmc).mono ?_); rintro e ud ⟨rfl, hB⟩; (with_reducible (replace cur := Lib.hid (cur.out.trans (hB.mono cur.out.size)))); clear hB; clear hlc hbc hvc)
      | (go_at_call 14; (with_reducible refine (Ke.out _ cur.out).mono ?_); rintro e w' ⟨rfl, rfl⟩)
      | (go_at_call 12; (with_reducible refine (Kf.out _ cur.out).mono ?_); rintro e ue ⟨rfl, hB⟩; (with_reducible (replace cur := Lib.hid (cur.out.trans (hB.mono cur.out.size)))); clear hB))
  all_goals (
    have Hfin := Lib.hid (HSd.out.trans (cur.out.mono HSd.out.size))
    clear Ka Kb Kc Kd Ke Kf HW cur HSd
    go_wp2
    go_ret
    exact ⟨rfl, Hfin.out⟩)

set_option maxHeartbeats 8000000 in
set_option maxRecDepth 20000 in
theorem lnear_pos (g : Bool) (A : Option Addr) (n c : Nat) (xs : List Nat) (e0 : Int) (w : World) (hT : Tab w) (hA : Lim w A n c xs) (hl : n ≤ 70) (hr : RightP (nO g (val xs) e0).neg (nO g (val xs) e0).V (nO g (val xs) e0).e) (hs : npN (nO g (val xs) e0).V = false) :
    Calls Tryd.prog 3 #[.agg #[.bool g, .slice A n c, .int .i64 e0]] w fun e w' => e = .returned (.bool true) ∧ Below w.heap.size w w' := by
  obtain ⟨⟨ng, nV, nE⟩, hO⟩ : ∃ o, nO g (val xs) e0 = o := ⟨_, rfl⟩
  have hRL := right_log hO
  dsimp only at hRL
  rw [hO] at hr
  dsimp only at hr
  have a1 := below1 w (.cells #[.bool g, .slice A n c, .int .i64 e0] 24)
  have HS := Lib.hid a1
  have HT := Lib.hid (hT.below a1)
  have HXl := Lib.hid (hA.below a1)
  have HX := Lib.hid (Bd.new w 24 g A n c e0)
  have H1 := Lib.hid (lalive_any _ HT.out)
  have HO := Lib.hid hO
  have d1 : decide ((70 : Int) < (n : Int)) = false := decide_eq_false (by omega)
  have d2 : decide (70 < n) = false := decide_eq_false (by omega)
  have HN : Hid (mk g (val xs) e0 = some ⟨ng, nV, nE⟩ ∧ LogD ⟨ng, nV, nE⟩) := hRL.1 hr
  have HR : Hid (decide (RightP ng nV nE) = true) := decide_eq_true hr
  have HP : Hid (nV ≠ 0 ∧ npN nV = false ∧ blen nV ≤ 4000) := ⟨hr.2.2.1, by rw [hO] at hs; exact hs, hr.2.2.2.1⟩
  have hE := logd_exp (hRL.1 hr).2
  dsimp only at hE
  have hE1 := hE.1
  have hE2 := hE.2.1
  have hEa := (hRL.1 hr).2.1.1
  have hEb := (hRL.1 hr).2.1.2.1
  dsimp only at hEa hEb
  clear hT hA a1 hO hRL hr hs hE
  go_enter Tryd.func3, Tryd.ntmps3
  go_wp2_with fail
  refine H1.out.mono ?_
  rintro e w1 ⟨rfl, hB⟩
  replace HT : Hid (Tab w1) := HT.out.below hB
  replace HXl : Hid (Lim w1 A n c xs) := HXl.out.below hB
  replace HX : Hid (Bd w1 w.heap.size 24 g A n c e0) := HX.out.below hB
  replace HS := Lib.hid (HS.out.trans (hB.mono HS.out.size))
  clear hB H1
  have HX_0 := HX.out.c0
  have HX_1 := HX.out.c1
  have HX_2 := HX.out.c2
  have H2 := rof_any g A n c xs e0 w1 HXl.out (by omega)
  rw [HO.out] at H2
  replace H2 := Lib.hid H2
  go_wp2_with fail
  refine H2.out.mono ?_
  rintro e w2 ⟨An, mn, cn, dn, rfl, hmn, hln, hbn, hvn, hB⟩
  clear HX_0 HX_1 HX_2
  replace HT : Hid (Tab w2) := HT.out.below hB
  replace HXl : Hid (Lim w2 A n c xs) := HXl.out.below hB
  replace HX : Hid (Bd w2 w.heap.size 24 g A n c e0) := HX.out.below hB
  replace HS := Lib.hid (HS.out.trans (hB.mono HS.out.size))
  dsimp only at hvn
  have HNd : Hid (Dig w2 An mn cn dn ∧ D.Bare dn ∧ D.val dn = nV) := ⟨hln, hbn, hvn⟩
  clear hln hbn hvn hB H2
  have ba := below1 w2 (.cells #[.bool ng, .slice An mn cn, .int .i64 nE] 28)
  replace HT : Hid (Tab (w2.alloc (.cells #[.bool ng, .slice An mn cn, .int .i64 nE] 28))) := HT.out.below ba
  replace HXl : Hid (Lim (w2.alloc (.cells #[.bool ng, .slice An mn cn, .int .i64 nE] 28)) A n c xs) := HXl.out.below ba
  replace HX : Hid (Bd (w2.alloc (.cells #[.bool ng, .slice An mn cn, .int .i64 nE] 28)) w.heap.size 24 g A n c e0) := HX.out.below ba
  replace HNd : Hid (Dig (w2.alloc (.cells #[.bool ng, .slice An mn cn, .int .i64 nE] 28)) An mn cn dn ∧ D.Bare dn ∧ D.val dn = nV) := ⟨HNd.out.1.below ba, HNd.out.2⟩
  replace HS := Lib.hid (HS.out.trans (ba.mono HS.out.size))
  clear ba
  have HNb : Hid (Bd (w2.alloc (.cells #[.bool ng, .slice An mn cn, .int .i64 nE] 28)) w2.heap.size 28 ng An mn cn nE) := Bd.new w2 28 ng An mn cn nE
  have HX_0 := HX.out.c0
  have HX_1 := HX.out.c1
  have HX_2 := HX.out.c2
  have H3 := Lib.hid (near_l g A n c xs e0 (w2.alloc (.cells #[.bool ng, .slice An mn cn, .int .i64 nE] 28)) HXl.out (by omega) HT.out)
  go_wp2_with fail
  refine H3.out.mono ?_
  rintro e w3 ⟨A1, m1, c1, zs, A2, m2, c2, us, neg, E, ok, rfl, hm1, hm2, hl1, hl2, hb1, hb2, hB, hq⟩
  clear HX_0 HX_1 HX_2
  replace HT : Hid (Tab w3) := HT.out.below hB
  replace HXl : Hid (Lim w3 A n c xs) := HXl.out.below hB
  replace HX : Hid (Bd w3 w.heap.size 24 g A n c e0) := HX.out.below hB
  replace HNd : Hid (Dig w3 An mn cn dn ∧ D.Bare dn ∧ D.val dn = nV) := ⟨HNd.out.1.below hB, HNd.out.2⟩
  replace HNb : Hid (Bd w3 w2.heap.size 28 ng An mn cn nE) := HNb.out.below hB
  replace HS := Lib.hid (HS.out.trans (hB.mono HS.out.size))
  obtain ⟨rfl, rfl, hEE, hX, hY⟩ : ok = true ∧ neg = false ∧ E = nE + npE nV ∧ val zs = npX nV ∧ val us = npY nV := by
    rcases hq with ⟨d, h1, h2, h3, h4, h5, h6, h7⟩ | ⟨h, _⟩
    · rw [HN.out.1] at h1
      cases h1
      exact ⟨h3, by rw [h4]; exact HP.out.2.1, h5, h6, h7⟩
    · exact absurd ⟨_, HN.out⟩ h
  have H1l : Hid (Lim w3 A1 m1 c1 zs) := hl1
  have H2l : Hid (Lim w3 A2 m2 c2 us) := hl2
  have HXY : Hid (val zs = npX nV ∧ val us = npY nV ∧ E = nE + npE nV) := ⟨hX, hY, hEE⟩
  clear hX hY hEE
  clear hl1 hl2 hb1 hb2 hB hq H3
  have HNb_0 := HNb.out.c0
  have HNb_1 := HNb.out.c1
  have HNb_2 := HNb.out.c2
  have H4 := Lib.hid (rright_l true ng An mn cn dn nE w3 HNd.out.1 HNd.out.2.1 (by omega) (by rw [HNd.out.2.2]; exact HR.out))
  go_wp2_with fail
  refine H4.out.mono ?_
  rintro e w4 ⟨rfl, hB⟩
  clear HNb_0 HNb_1 HNb_2
  replace HT : Hid (Tab w4) := HT.out.below hB
  replace HXl : Hid (Lim w4 A n c xs) := HXl.out.below hB
  replace HX : Hid (Bd w4 w.heap.size 24 g A n c e0) := HX.out.below hB
  replace HNd : Hid (Dig w4 An mn cn dn ∧ D.Bare dn ∧ D.val dn = nV) := ⟨HNd.out.1.below hB, HNd.out.2⟩
  replace HNb : Hid (Bd w4 w2.heap.size 28 ng An mn cn nE) := HNb.out.below hB
  replace H1l : Hid (Lim w4 A1 m1 c1 zs) := H1l.out.below hB
  replace H2l : Hid (Lim w4 A2 m2 c2 us) := H2l.out.below hB
  replace HS := Lib.hid (HS.out.trans (hB.mono HS.out.size))
  clear hB H4
  clear HR HN HO
  clear HX HXl
  have H5 := to_any A1 m1 c1 zs w4 H1l.out (by omega)
  rw [HXY.out.1] at H5
  replace H5 := Lib.hid H5
  go_wp2_with fail
  refine H5.out.mono ?_
  rintro e w5 ⟨A5, m5, c5, d5, rfl, hm5, hl5, hb5, hv5, hB⟩
  replace HT : Hid (Tab w5) := HT.out.below hB
  replace HNd : Hid (Dig w5 An mn cn dn ∧ D.Bare dn ∧ D.val dn = nV) := ⟨HNd.out.1.below hB, HNd.out.2⟩
  replace HNb : Hid (Bd w5 w2.heap.size 28 ng An mn cn nE) := HNb.out.below hB
  replace H1l : Hid (Lim w5 A1 m1 c1 zs) := H1l.out.below hB
  replace H2l : Hid (Lim w5 A2 m2 c2 us) := H2l.out.below hB
  replace HS := Lib.hid (HS.out.trans (hB.mono HS.out.size))
  have Hx : Hid (Dig w5 A5 m5 c5 d5 ∧ D.Bare d5 ∧ D.val d5 = npX nV) := ⟨hl5, hb5, hv5⟩
  clear hl5 hb5 hv5 hB H5
  clear H1l
  have H5 := to_any A2 m2 c2 us w5 H2l.out (by omega)
  rw [HXY.out.2.1] at H5
  replace H5 := Lib.hid H5
  go_wp2_with fail
  refine H5.out.mono ?_
  rintro e w6 ⟨A6, m6, c6, d6, rfl, hm6, hl6, hb6, hv6, hB⟩
  replace HT : Hid (Tab w6) := HT.out.below hB
  replace HNd : Hid (Dig w6 An mn cn dn ∧ D.Bare dn ∧ D.val dn = nV) := ⟨HNd.out.1.below hB, HNd.out.2⟩
  replace HNb : Hid (Bd w6 w2.heap.size 28 ng An mn cn nE) := HNb.out.below hB
  replace H2l : Hid (Lim w6 A2 m2 c2 us) := H2l.out.below hB
  replace Hx : Hid (Dig w6 A5 m5 c5 d5 ∧ D.Bare d5 ∧ D.val d5 = npX nV) := ⟨Hx.out.1.below hB, Hx.out.2⟩
  replace HS := Lib.hid (HS.out.trans (hB.mono HS.out.size))
  have Hy : Hid (Dig w6 A6 m6 c6 d6 ∧ D.Bare d6 ∧ D.val d6 = npY nV) := ⟨hl6, hb6, hv6⟩
  clear hl6 hb6 hv6 hB H5
  clear H2l
  obtain ⟨X, hX⟩ : ∃ X, npX nV = X := ⟨_, rfl⟩
  obtain ⟨Y, hY⟩ : ∃ Y, npY nV = Y := ⟨_, rfl⟩
  rw [hX] at Hx
  rw [hY] at Hy
  obtain ⟨Q, hQ⟩ : ∃ Q, npP nV = Q := ⟨_, rfl⟩
  obtain ⟨hb, hhb⟩ : ∃ p, 2 ^ (blen nV - 1) = p := ⟨_, rfl⟩
  have hF : 3 * X ≤ Y ∧ Y + X = 2 * nV ∧ Y - X = 2 * Q ∧ X ≤ Y ∧ Q = hb ∧ 2 * nV < 3 * hb ∧ Q ≤ nV := by
    have t := np_third HP.out.1
    have u := np_not HP.out.1 HP.out.2.1
    have v := (np_half HP.out.1).2 HP.out.2.1
    rw [hX, hY] at t u
    rw [hQ] at u v
    rw [hhb] at v
    exact ⟨t.1, u.1, u.2.1, by omega, v.1, v.2, u.2.2.2.2⟩
  have HF := Lib.hid hF
  obtain ⟨ne, hne⟩ : ∃ k, npE nV = k := ⟨_, rfl⟩
  obtain ⟨bl, hbl⟩ : ∃ k, blen nV = k := ⟨_, rfl⟩
  have hnb := np_blen HP.out.1 HP.out.2.2
  rw [hbl, hne] at hnb
  have hbp := blen_pos HP.out.1
  rw [hbl] at hbp
  have hbq := np_blenP nV
  rw [hQ, hne] at hbq
  rw [hbl] at hhb
  have hb4 := HP.out.2.2
  rw [hbl] at hb4
  have HEE : Hid (E = nE + (ne : Int)) := by show _ = _; have h := HXY.out.2.2; rw [hne] at h; exact h
  rw [hne] at hE1 hE2
  obtain ⟨k, hk⟩ : ∃ k, bl - 1 = k := ⟨_, rfl⟩
  have ek : (bl : Int) - 1 = (k : Int) := by omega
  have hk9 : k ≤ 4000 := by omega
  obtain ⟨S, hS⟩ : ∃ S : Int, nE + ((ne + 1 : Nat) : Int) = S := ⟨_, rfl⟩
  obtain ⟨nb, hnbq⟩ : ∃ nb, ne + 1 = nb := ⟨_, rfl⟩
  rw [hnbq] at hS hbq
  have eS : nE + (nb : Int) = S := hS
  obtain ⟨R, hR⟩ : ∃ R : Int, S - 1 = R := ⟨_, rfl⟩
  have eR : (R == E) = true := by have := HEE.out; exact beq_yes (by omega)
  have eR2 : (R == nE + (ne : Int)) = true := beq_yes (by omega)
  have hR0 : R = nE + (ne : Int) := by omega
  have wS : IntKind.i64.wrap (nE + (nb : Int)) = S := by rw [eS, IntKind.wrap_i64]; omega
  have wS2 : IntKind.i64.wrap S = S := by rw [IntKind.wrap_i64]; omega
  have wR : IntKind.i64.wrap (S - 1) = R := by rw [hR, IntKind.wrap_i64]; omega
  have wR2 : IntKind.i64.wrap R = R := by rw [IntKind.wrap_i64]; omega
  rw [hk] at hhb
  have HK : Hid (2 ^ k = hb ∧ blen nV = bl ∧ blen Q = nb) := ⟨hhb, hbl, hbq⟩
  clear hF hX hY hQ hne hbl hnb hbp hbq hhb hb4 hk HXY HEE HP hS hnbq hR0
  have H6 := radd_any A5 m5 c5 d5 A5 m5 c5 d5 w6 Hx.out.1 Hx.out.1 Hx.out.2.1 Hx.out.2.1 (by omega) (by omega)
  rw [Hx.out.2.2] at H6
  replace H6 := Lib.hid H6
  go_wp2_with fail
  refine H6.out.mono ?_
  rintro e w7 ⟨A7, m7, c7, d7, rfl, hm7, hl7, hb7, hv7, hB⟩
  replace HT : Hid (Tab w7) := HT.out.below hB
  replace HNd : Hid (Dig w7 An mn cn dn ∧ D.Bare dn ∧ D.val dn = nV) := ⟨HNd.out.1.below hB, HNd.out.2⟩
  replace HNb : Hid (Bd w7 w2.heap.size 28 ng An mn cn nE) := HNb.out.below hB
  replace Hx : Hid (Dig w7 A5 m5 c5 d5 ∧ D.Bare d5 ∧ D.val d5 = X) := ⟨Hx.out.1.below hB, Hx.out.2⟩
  replace Hy : Hid (Dig w7 A6 m6 c6 d6 ∧ D.Bare d6 ∧ D.val d6 = Y) := ⟨Hy.out.1.below hB, Hy.out.2⟩
  replace HS := Lib.hid (HS.out.trans (hB.mono HS.out.size))
  have Hx2 : Hid (Dig w7 A7 m7 c7 d7 ∧ D.Bare d7 ∧ D.val d7 = X + X) := ⟨hl7, hb7, hv7⟩
  clear hl7 hb7 hv7 hB H6
  have H6 := radd_any A5 m5 c5 d5 A7 m7 c7 d7 w7 Hx.out.1 Hx2.out.1 Hx.out.2.1 Hx2.out.2.1 (by omega) (by omega)
  rw [Hx.out.2.2, Hx2.out.2.2] at H6
  replace H6 := Lib.hid H6
  go_wp2_with fail
  refine H6.out.mono ?_
  rintro e w8 ⟨A8, m8, c8, d8, rfl, hm8, hl8, hb8, hv8, hB⟩
  replace HT : Hid (Tab w8) := HT.out.below hB
  replace HNd : Hid (Dig w8 An mn cn dn ∧ D.Bare dn ∧ D.val dn = nV) := ⟨HNd.out.1.below hB, HNd.out.2⟩
  replace HNb : Hid (Bd w8 w2.heap.size 28 ng An mn cn nE) := HNb.out.below hB
  replace Hx : Hid (Dig w8 A5 m5 c5 d5 ∧ D.Bare d5 ∧ D.val d5 = X) := ⟨Hx.out.1.below hB, Hx.out.2⟩
  replace Hy : Hid (Dig w8 A6 m6 c6 d6 ∧ D.Bare d6 ∧ D.val d6 = Y) := ⟨Hy.out.1.below hB, Hy.out.2⟩
  replace Hx2 : Hid (Dig w8 A7 m7 c7 d7 ∧ D.Bare d7 ∧ D.val d7 = X + X) := ⟨Hx2.out.1.below hB, Hx2.out.2⟩
  replace HS := Lib.hid (HS.out.trans (hB.mono HS.out.size))
  have Hx3 : Hid (Dig w8 A8 m8 c8 d8 ∧ D.Bare d8 ∧ D.val d8 = X + (X + X)) := ⟨hl8, hb8, hv8⟩
  clear hl8 hb8 hv8 hB H6
  clear Hx2
  obtain ⟨va, hva⟩ : ∃ v, cmpZ (X + (X + X)) (Y) = v := ⟨_, rfl⟩
  have cva : decide ((0 : Int) < va) = false := by rw [← hva]; exact decide_eq_false (by have := cmpZ_down (show X + (X + X) ≤ Y by have := HF.out.1; omega); omega)
  have H7 := Lib.hid (rcmp_v va A8 m8 c8 d8 A6 m6 c6 d6 w8 Hx3.out.1 Hy.out.1 Hx3.out.2.1 Hy.out.2.1 (by omega) (by omega) (by rw [Hx3.out.2.2, Hy.out.2.2]; exact hva))
  clear hva
  go_wp2_with fail
  refine H7.out.mono ?_
  rintro e w9 ⟨rfl, hB⟩
  replace HT : Hid (Tab w9) := HT.out.below hB
  replace HNd : Hid (Dig w9 An mn cn dn ∧ D.Bare dn ∧ D.val dn = nV) := ⟨HNd.out.1.below hB, HNd.out.2⟩
  replace HNb : Hid (Bd w9 w2.heap.size 28 ng An mn cn nE) := HNb.out.below hB
  replace Hx : Hid (Dig w9 A5 m5 c5 d5 ∧ D.Bare d5 ∧ D.val d5 = X) := ⟨Hx.out.1.below hB, Hx.out.2⟩
  replace Hy : Hid (Dig w9 A6 m6 c6 d6 ∧ D.Bare d6 ∧ D.val d6 = Y) := ⟨Hy.out.1.below hB, Hy.out.2⟩
  replace Hx3 : Hid (Dig w9 A8 m8 c8 d8 ∧ D.Bare d8 ∧ D.val d8 = X + (X + X)) := ⟨Hx3.out.1.below hB, Hx3.out.2⟩
  replace HS := Lib.hid (HS.out.trans (hB.mono HS.out.size))
  clear hB H7
  clear Hx3
  have H6 := radd_any A6 m6 c6 d6 A5 m5 c5 d5 w9 Hy.out.1 Hx.out.1 Hy.out.2.1 Hx.out.2.1 (by omega) (by omega)
  rw [Hy.out.2.2, Hx.out.2.2] at H6
  replace H6 := Lib.hid H6
  go_wp2_with fail
  refine H6.out.mono ?_
  rintro e w10 ⟨A10, m10, c10, d10, rfl, hm10, hl10, hb10, hv10, hB⟩
  replace HT : Hid (Tab w10) := HT.out.below hB
  replace HNd : Hid (Dig w10 An mn cn dn ∧ D.Bare dn ∧ D.val dn = nV) := ⟨HNd.out.1.below hB, HNd.out.2⟩
  replace HNb : Hid (Bd w10 w2.heap.size 28 ng An mn cn nE) := HNb.out.below hB
  replace Hx : Hid (Dig w10 A5 m5 c5 d5 ∧ D.Bare d5 ∧ D.val d5 = X) := ⟨Hx.out.1.below hB, Hx.out.2⟩
  replace Hy : Hid (Dig w10 A6 m6 c6 d6 ∧ D.Bare d6 ∧ D.val d6 = Y) := ⟨Hy.out.1.below hB, Hy.out.2⟩
  replace HS := Lib.hid (HS.out.trans (hB.mono HS.out.size))
  have Hup : Hid (Dig w10 A10 m10 c10 d10 ∧ D.Bare d10 ∧ D.val d10 = Y + X) := ⟨hl10, hb10, hv10⟩
  clear hl10 hb10 hv10 hB H6
  have H6 := rsub_any A6 m6 c6 d6 A5 m5 c5 d5 w10 Hy.out.1 Hx.out.1 Hx.out.2.1 (by rw [Hy.out.2.2, Hx.out.2.2]; exact HF.out.2.2.2.1) (by omega) (by omega)
  rw [Hy.out.2.2, Hx.out.2.2] at H6
  replace H6 := Lib.hid H6
  go_wp2_with fail
  refine H6.out.mono ?_
  rintro e w11 ⟨A11, m11, c11, d11, rfl, hm11, hl11, hb11, hv11, hB⟩
  replace HT : Hid (Tab w11) := HT.out.below hB
  replace HNd : Hid (Dig w11 An mn cn dn ∧ D.Bare dn ∧ D.val dn = nV) := ⟨HNd.out.1.below hB, HNd.out.2⟩
  replace HNb : Hid (Bd w11 w2.heap.size 28 ng An mn cn nE) := HNb.out.below hB
  replace Hx : Hid (Dig w11 A5 m5 c5 d5 ∧ D.Bare d5 ∧ D.val d5 = X) := ⟨Hx.out.1.below hB, Hx.out.2⟩
  replace Hy : Hid (Dig w11 A6 m6 c6 d6 ∧ D.Bare d6 ∧ D.val d6 = Y) := ⟨Hy.out.1.below hB, Hy.out.2⟩
  replace Hup : Hid (Dig w11 A10 m10 c10 d10 ∧ D.Bare d10 ∧ D.val d10 = Y + X) := ⟨Hup.out.1.below hB, Hup.out.2⟩
  replace HS := Lib.hid (HS.out.trans (hB.mono HS.out.size))
  have Hdn : Hid (Dig w11 A11 m11 c11 d11 ∧ D.Bare d11 ∧ D.val d11 = Y - X) := ⟨hl11, hb11, hv11⟩
  clear hl11 hb11 hv11 hB H6
  clear Hx Hy
  rw [HF.out.2.1] at Hup
  rw [HF.out.2.2.1] at Hdn
  have HNb_0 := HNb.out.c0
  have HNb_1 := HNb.out.c1
  have HNb_2 := HNb.out.c2
  have H8 := Lib.hid (lrbits bl An mn cn dn w11 HNd.out.1 HNd.out.2.1 (by omega) (by rw [HNd.out.2.2]; exact HK.out.2.1))
  go_wp2_with fail
  refine H8.out.mono ?_
  rintro e w' ⟨rfl, rfl⟩
  clear H8
  have H9 := Lib.hid (num_any 1 (by decide) w11)
  go_wp2_with fail
  refine H9.out.mono ?_
  rintro e w12 ⟨A12, m12, c12, d12, rfl, hm12, hl12, hb12, hv12, hB⟩
  clear HNb_0 HNb_1 HNb_2
  replace HT : Hid (Tab w12) := HT.out.below hB
  replace HNd : Hid (Dig w12 An mn cn dn ∧ D.Bare dn ∧ D.val dn = nV) := ⟨HNd.out.1.below hB, HNd.out.2⟩
  replace HNb : Hid (Bd w12 w2.heap.size 28 ng An mn cn nE) := HNb.out.below hB
  replace Hup : Hid (Dig w12 A10 m10 c10 d10 ∧ D.Bare d10 ∧ D.val d10 = 2 * nV) := ⟨Hup.out.1.below hB, Hup.out.2⟩
  replace Hdn : Hid (Dig w12 A11 m11 c11 d11 ∧ D.Bare d11 ∧ D.val d11 = 2 * Q) := ⟨Hdn.out.1.below hB, Hdn.out.2⟩
  replace HS := Lib.hid (HS.out.trans (hB.mono HS.out.size))
  have H1 : Hid (Dig w12 A12 m12 c12 d12 ∧ D.Bare d12 ∧ D.val d12 = 1) := ⟨hl12, hb12, hv12⟩
  clear hl12 hb12 hv12 hB H9
  have H10 := rshl_any A12 m12 c12 d12 k w12 H1.out.1 H1.out.2.1 (by omega) (by omega)
  rw [H1.out.2.2, Nat.one_mul, HK.out.1] at H10
  replace H10 := Lib.hid H10
  go_wp2_with fail
  refine H10.out.mono ?_
  rintro e w13 ⟨A13, m13, c13, d13, rfl, hm13, hl13, hb13, hv13, hB⟩
  replace HT : Hid (Tab w13) := HT.out.below hB
  replace HNd : Hid (Dig w13 An mn cn dn ∧ D.Bare dn ∧ D.val dn = nV) := ⟨HNd.out.1.below hB, HNd.out.2⟩
  replace HNb : Hid (Bd w13 w2.heap.size 28 ng An mn cn nE) := HNb.out.below hB
  replace Hup : Hid (Dig w13 A10 m10 c10 d10 ∧ D.Bare d10 ∧ D.val d10 = 2 * nV) := ⟨Hup.out.1.below hB, Hup.out.2⟩
  replace Hdn : Hid (Dig w13 A11 m11 c11 d11 ∧ D.Bare d11 ∧ D.val d11 = 2 * Q) := ⟨Hdn.out.1.below hB, Hdn.out.2⟩
  replace H1 : Hid (Dig w13 A12 m12 c12 d12 ∧ D.Bare d12 ∧ D.val d12 = 1) := ⟨H1.out.1.below hB, H1.out.2⟩
  replace HS := Lib.hid (HS.out.trans (hB.mono HS.out.size))
  have Hhb : Hid (Dig w13 A13 m13 c13 d13 ∧ D.Bare d13 ∧ D.val d13 = hb) := ⟨hl13, hb13, hv13⟩
  clear hl13 hb13 hv13 hB H10
  clear H1
  have HNb_0 := HNb.out.c0
  have HNb_1 := HNb.out.c1
  have HNb_2 := HNb.out.c2
  have H6 := radd_any An mn cn dn An mn cn dn w13 HNd.out.1 HNd.out.1 HNd.out.2.1 HNd.out.2.1 (by omega) (by omega)
  rw [HNd.out.2.2] at H6
  replace H6 := Lib.hid H6
  go_wp2_with fail
  refine H6.out.mono ?_
  rintro e w14 ⟨A14, m14, c14, d14, rfl, hm14, hl14, hb14, hv14, hB⟩
  clear HNb_0 HNb_1 HNb_2
  replace HT : Hid (Tab w14) := HT.out.below hB
  replace HNd : Hid (Dig w14 An mn cn dn ∧ D.Bare dn ∧ D.val dn = nV) := ⟨HNd.out.1.below hB, HNd.out.2⟩
  replace HNb : Hid (Bd w14 w2.heap.size 28 ng An mn cn nE) := HNb.out.below hB
  replace Hup : Hid (Dig w14 A10 m10 c10 d10 ∧ D.Bare d10 ∧ D.val d10 = 2 * nV) := ⟨Hup.out.1.below hB, Hup.out.2⟩
  replace Hdn : Hid (Dig w14 A11 m11 c11 d11 ∧ D.Bare d11 ∧ D.val d11 = 2 * Q) := ⟨Hdn.out.1.below hB, Hdn.out.2⟩
  replace Hhb : Hid (Dig w14 A13 m13 c13 d13 ∧ D.Bare d13 ∧ D.val d13 = hb) := ⟨Hhb.out.1.below hB, Hhb.out.2⟩
  replace HS := Lib.hid (HS.out.trans (hB.mono HS.out.size))
  have Hv2 : Hid (Dig w14 A14 m14 c14 d14 ∧ D.Bare d14 ∧ D.val d14 = nV + nV) := ⟨hl14, hb14, hv14⟩
  clear hl14 hb14 hv14 hB H6
  have H6 := radd_any A13 m13 c13 d13 A13 m13 c13 d13 w14 Hhb.out.1 Hhb.out.1 Hhb.out.2.1 Hhb.out.2.1 (by omega) (by omega)
  rw [Hhb.out.2.2] at H6
  replace H6 := Lib.hid H6
  go_wp2_with fail
  refine H6.out.mono ?_
  rintro e w15 ⟨A15, m15, c15, d15, rfl, hm15, hl15, hb15, hv15, hB⟩
  replace HT : Hid (Tab w15) := HT.out.below hB
  replace HNd : Hid (Dig w15 An mn cn dn ∧ D.Bare dn ∧ D.val dn = nV) := ⟨HNd.out.1.below hB, HNd.out.2⟩
  replace HNb : Hid (Bd w15 w2.heap.size 28 ng An mn cn nE) := HNb.out.below hB
  replace Hup : Hid (Dig w15 A10 m10 c10 d10 ∧ D.Bare d10 ∧ D.val d10 = 2 * nV) := ⟨Hup.out.1.below hB, Hup.out.2⟩
  replace Hdn : Hid (Dig w15 A11 m11 c11 d11 ∧ D.Bare d11 ∧ D.val d11 = 2 * Q) := ⟨Hdn.out.1.below hB, Hdn.out.2⟩
  replace Hhb : Hid (Dig w15 A13 m13 c13 d13 ∧ D.Bare d13 ∧ D.val d13 = hb) := ⟨Hhb.out.1.below hB, Hhb.out.2⟩
  replace Hv2 : Hid (Dig w15 A14 m14 c14 d14 ∧ D.Bare d14 ∧ D.val d14 = nV + nV) := ⟨Hv2.out.1.below hB, Hv2.out.2⟩
  replace HS := Lib.hid (HS.out.trans (hB.mono HS.out.size))
  have Hh2 : Hid (Dig w15 A15 m15 c15 d15 ∧ D.Bare d15 ∧ D.val d15 = hb + hb) := ⟨hl15, hb15, hv15⟩
  clear hl15 hb15 hv15 hB H6
  have H6 := radd_any A13 m13 c13 d13 A15 m15 c15 d15 w15 Hhb.out.1 Hh2.out.1 Hhb.out.2.1 Hh2.out.2.1 (by omega) (by omega)
  rw [Hhb.out.2.2, Hh2.out.2.2] at H6
  replace H6 := Lib.hid H6
  go_wp2_with fail
  refine H6.out.mono ?_
  rintro e w16 ⟨A16, m16, c16, d16, rfl, hm16, hl16, hb16, hv16, hB⟩
  replace HT : Hid (Tab w16) := HT.out.below hB
  replace HNd : Hid (Dig w16 An mn cn dn ∧ D.Bare dn ∧ D.val dn = nV) := ⟨HNd.out.1.below hB, HNd.out.2⟩
  replace HNb : Hid (Bd w16 w2.heap.size 28 ng An mn cn nE) := HNb.out.below hB
  replace Hup : Hid (Dig w16 A10 m10 c10 d10 ∧ D.Bare d10 ∧ D.val d10 = 2 * nV) := ⟨Hup.out.1.below hB, Hup.out.2⟩
  replace Hdn : Hid (Dig w16 A11 m11 c11 d11 ∧ D.Bare d11 ∧ D.val d11 = 2 * Q) := ⟨Hdn.out.1.below hB, Hdn.out.2⟩
  replace Hhb : Hid (Dig w16 A13 m13 c13 d13 ∧ D.Bare d13 ∧ D.val d13 = hb) := ⟨Hhb.out.1.below hB, Hhb.out.2⟩
  replace Hv2 : Hid (Dig w16 A14 m14 c14 d14 ∧ D.Bare d14 ∧ D.val d14 = nV + nV) := ⟨Hv2.out.1.below hB, Hv2.out.2⟩
  replace Hh2 : Hid (Dig w16 A15 m15 c15 d15 ∧ D.Bare d15 ∧ D.val d15 = hb + hb) := ⟨Hh2.out.1.below hB, Hh2.out.2⟩
  replace HS := Lib.hid (HS.out.trans (hB.mono HS.out.size))
  have Hh3 : Hid (Dig w16 A16 m16 c16 d16 ∧ D.Bare d16 ∧ D.val d16 = hb + (hb + hb)) := ⟨hl16, hb16, hv16⟩
  clear hl16 hb16 hv16 hB H6
  obtain ⟨vb, hvb⟩ : ∃ v, cmpZ (nV + nV) (hb + (hb + hb)) = v := ⟨_, rfl⟩
  have cvb : decide ((0 : Int) ≤ vb) = false := by rw [← hvb]; exact decide_eq_false (by rw [cmpZ_lt (by have := HF.out.2.2.2.2.2.1; omega)]; decide)
  have H7 := Lib.hid (rcmp_v vb A14 m14 c14 d14 A16 m16 c16 d16 w16 Hv2.out.1 Hh3.out.1 Hv2.out.2.1 Hh3.out.2.1 (by omega) (by omega) (by rw [Hv2.out.2.2, Hh3.out.2.2]; exact hvb))
  clear hvb
  go_wp2_with fail
  refine H7.out.mono ?_
  rintro e w17 ⟨rfl, hB⟩
  replace HT : Hid (Tab w17) := HT.out.below hB
  replace HNd : Hid (Dig w17 An mn cn dn ∧ D.Bare dn ∧ D.val dn = nV) := ⟨HNd.out.1.below hB, HNd.out.2⟩
  replace HNb : Hid (Bd w17 w2.heap.size 28 ng An mn cn nE) := HNb.out.below hB
  replace Hup : Hid (Dig w17 A10 m10 c10 d10 ∧ D.Bare d10 ∧ D.val d10 = 2 * nV) := ⟨Hup.out.1.below hB, Hup.out.2⟩
  replace Hdn : Hid (Dig w17 A11 m11 c11 d11 ∧ D.Bare d11 ∧ D.val d11 = 2 * Q) := ⟨Hdn.out.1.below hB, Hdn.out.2⟩
  replace Hhb : Hid (Dig w17 A13 m13 c13 d13 ∧ D.Bare d13 ∧ D.val d13 = hb) := ⟨Hhb.out.1.below hB, Hhb.out.2⟩
  replace Hv2 : Hid (Dig w17 A14 m14 c14 d14 ∧ D.Bare d14 ∧ D.val d14 = nV + nV) := ⟨Hv2.out.1.below hB, Hv2.out.2⟩
  replace Hh2 : Hid (Dig w17 A15 m15 c15 d15 ∧ D.Bare d15 ∧ D.val d15 = hb + hb) := ⟨Hh2.out.1.below hB, Hh2.out.2⟩
  replace Hh3 : Hid (Dig w17 A16 m16 c16 d16 ∧ D.Bare d16 ∧ D.val d16 = hb + (hb + hb)) := ⟨Hh3.out.1.below hB, Hh3.out.2⟩
  replace HS := Lib.hid (HS.out.trans (hB.mono HS.out.size))
  clear hB H7
  clear Hv2 Hh2 Hh3
  rw [← HF.out.2.2.2.2.1] at Hhb
  have Hone := Hhb
  clear Hhb
  have bd := below_drew w17
  replace HT : Hid (Tab w17.drew) := HT.out.below bd
  replace HNd : Hid (Dig w17.drew An mn cn dn ∧ D.Bare dn ∧ D.val dn = nV) := ⟨HNd.out.1.below bd, HNd.out.2⟩
  replace HNb : Hid (Bd w17.drew w2.heap.size 28 ng An mn cn nE) := HNb.out.below bd
  replace Hup : Hid (Dig w17.drew A10 m10 c10 d10 ∧ D.Bare d10 ∧ D.val d10 = 2 * nV) := ⟨Hup.out.1.below bd, Hup.out.2⟩
  replace Hdn : Hid (Dig w17.drew A11 m11 c11 d11 ∧ D.Bare d11 ∧ D.val d11 = 2 * Q) := ⟨Hdn.out.1.below bd, Hdn.out.2⟩
  replace Hone : Hid (Dig w17.drew A13 m13 c13 d13 ∧ D.Bare d13 ∧ D.val d13 = Q) := ⟨Hone.out.1.below bd, Hone.out.2⟩
  replace HS := Lib.hid (HS.out.trans (bd.mono HS.out.size))
  clear bd
  obtain ⟨vd, hvd⟩ : ∃ v, cmpZ nV Q = v := ⟨_, rfl⟩
  have cvd : decide (vd < (0 : Int)) = false := by rw [← hvd]; exact decide_eq_false (by have := cmpZ_up HF.out.2.2.2.2.2.2; omega)
  have Ka : Hid (∀ u, Below w17.drew.heap.size w17.drew u → Calls Tryd.prog 11 #[.slice An mn cn, .slice An mn cn] u (DTells u (2 * nV) 100100)) := fun u hu => by have h := radd_any An mn cn dn An mn cn dn u (HNd.out.1.below hu) (HNd.out.1.below hu) HNd.out.2.1 HNd.out.2.1 (by omega) (by omega); rw [HNd.out.2.2, ← Nat.two_mul] at h; exact h.mono fun e w' ⟨A, m, c, ds, k1, k2, k3⟩ => ⟨A, m, c, ds, k1, by omega, k3⟩
  have Kb : Hid (∀ u, Below w17.drew.heap.size w17.drew u → Calls Tryd.prog 11 #[.slice A13 m13 c13, .slice A13 m13 c13] u (DTells u (2 * Q) 100100)) := fun u hu => by have h := radd_any A13 m13 c13 d13 A13 m13 c13 d13 u (Hone.out.1.below hu) (Hone.out.1.below hu) Hone.out.2.1 Hone.out.2.1 (by omega) (by omega); rw [Hone.out.2.2, ← Nat.two_mul] at h; exact h.mono fun e w' ⟨A, m, c, ds, k1, k2, k3⟩ => ⟨A, m, c, ds, k1, by omega, k3⟩
  have Kc : Hid (∀ u A m c es, Below w17.drew.heap.size w17.drew u → Dig u A m c es → D.Bare es → D.val es = 2 * nV → m ≤ 100100 → Calls Tryd.prog 12 #[.slice A10 m10 c10, .slice A m c] u fun e w' => e = .returned (.int .i64 0) ∧ Below u.heap.size u w') := fun u A m c es hu h1 h2 h3 h4 => rcmp_v 0 A10 m10 c10 d10 A m c es u (Hup.out.1.below hu) h1 Hup.out.2.1 h2 (by omega) (by omega) (by rw [Hup.out.2.2, h3]; exact cmpZ_eq rfl)
  have Kd : Hid (∀ u A m c es, Below w17.drew.heap.size w17.drew u → Dig u A m c es → D.Bare es → D.val es = 2 * Q → m ≤ 100100 → Calls Tryd.prog 12 #[.slice A11 m11 c11, .slice A m c] u fun e w' => e = .returned (.int .i64 0) ∧ Below u.heap.size u w') := fun u A m c es hu h1 h2 h3 h4 => rcmp_v 0 A11 m11 c11 d11 A m c es u (Hdn.out.1.below hu) h1 Hdn.out.2.1 h2 (by omega) (by omega) (by rw [Hdn.out.2.2, h3]; exact cmpZ_eq rfl)
  have Ke : Hid (∀ u, Below w17.drew.heap.size w17.drew u → Calls Tryd.prog 14 #[.slice A13 m13 c13] u fun e w' => e = .returned (.int .i64 (nb : Int)) ∧ u = w') := fun u hu => lrbits nb A13 m13 c13 d13 u (Hone.out.1.below hu) Hone.out.2.1 (by omega) (by rw [Hone.out.2.2]; exact HK.out.2.2)
  have Kf : Hid (∀ u, Below w17.drew.heap.size w17.drew u → Calls Tryd.prog 12 #[.slice An mn cn, .slice A13 m13 c13] u fun e w' => e = .returned (.int .i64 vd) ∧ Below u.heap.size u w') := fun u hu => rcmp_v vd An mn cn dn A13 m13 c13 d13 u (HNd.out.1.below hu) (Hone.out.1.below hu) HNd.out.2.1 Hone.out.2.1 (by omega) (by omega) (by rw [HNd.out.2.2, Hone.out.2.2]; exact hvd)
  have cur := Lib.hid (Below.refl w17.drew.heap.size w17.drew)
  have HW : Hid (∀ u, Below w17.drew.heap.size w17.drew u → u.cell? ⟨w2.heap.size, 1, none⟩ = some (.slice An mn cn) ∧ u.cell? ⟨w2.heap.size, 2, none⟩ = some (.int .i64 nE)) := fun u hu => ⟨(HNb.out.below hu).c1, (HNb.out.below hu).c2⟩
  have HSd := Lib.hid HS.out
  clear hvd HK HF HS HT HNd HNb Hup Hdn Hone
  go_wp2_with fail
  go_region_held3 (fun u => u.cell? ⟨w2.heap.size, 1, none⟩ = some (.slice An mn cn) ∧ u.cell? ⟨w2.heap.size, 2, none⟩ = some (.int .i64 nE)) (with_reducible exact HW.out _ cur.out)
    (first
      | (go_at_call 11; (with_reducible refine (Ka.out _ cur.out).mono ?_); rintro e ua ⟨Aa, ma, ca, sa, rfl, hma, hla, hba, hva, hB⟩; (with_reducible (replace cur := Lib.hid (cur.out.trans (hB.mono cur.out.size)))); clear hB)
      | (go_at_call 12; (with_reducible refine (Kc.out _ Aa ma ca sa cur.out hla hba hva hma).mono ?_); rintro e ub ⟨rfl, hB⟩; (with_reducible (replace cur := Lib.hid (cur.out.trans (hB.mono cur.out.size)))); clear hB; clear hla hba hva)
      | (go_at_call 11; (with_reducible refine (Kb.out _ cur.out).mono ?_); rintro e uc ⟨Ac, mc, cc, sc, rfl, hmc, hlc, hbc, hvc, hB⟩; (with_reducible (replace cur := Lib.hid (cur.out.trans (hB.mono cur.out.size)))); clear hB)
      | (go_at_call 12; (with_reducible refine (Kd.out _ Ac mc cc sc cur.out hlc hbc hvc hmc).mono ?_); rintro e ud ⟨rfl, hB⟩; (with_reducible (replace cur := Lib.hid (cur.out.trans (hB.mono cur.out.size)))); clear hB; clear hlc hbc hvc)
      | (go_at_call 14; (with_reducible refine (Ke.out _ cur.out).mono ?_); rintro e w' ⟨rfl, rfl⟩)
      | (go_at_call 12; (with_reducible refine (Kf.out _ cur.out).mono ?_); rintro e ue ⟨rfl, hB⟩; (with_reducible (replace cur := Lib.hid (cur.out.trans (hB.mono cur.out.size)))); clear hB))
  all_goals (
    have Hfin := Lib.hid (HSd.out.trans (cur.out.mono HSd.out.size))
    clear Ka Kb Kc Kd Ke Kf HW cur HSd
    go_wp2
    go_ret
    exact ⟨rfl, Hfin.out⟩)

theorem walk_logsNear (g : Bool) (A : Option Addr) (n c : Nat) (xs : List Nat) (e0 : Int) (w : World) (hT : Tab w) (hA : Lim w A n c xs) :
    Calls Tryd.prog 3 #[.agg #[.bool g, .slice A n c, .int .i64 e0]] w fun e w' => e = .returned (.bool true) ∧ Below w.heap.size w w' := by
  by_cases hl : n ≤ 70
  · by_cases hr : RightP (nO g (val xs) e0).neg (nO g (val xs) e0).V (nO g (val xs) e0).e
    · cases hs : npN (nO g (val xs) e0).V with
      | true => exact lnear_neg g A n c xs e0 w hT hA hl hr hs
      | false => exact lnear_pos g A n c xs e0 w hT hA hl hr hs
    · exact lnear_no g A n c xs e0 w hT hA hl hr
  · exact lnear_long g A n c xs e0 w hT hA (by omega)
end Go.Proofs.YtpbggonfdaealaaDoor
