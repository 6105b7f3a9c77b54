/- The walk of the law ExpsTell where nothing is asked, and where what is told is too wide (written by law_etell.py). -/
import Derived.Test.YtijhdlkfihjbiaaGreatDoorEpTellM
import Derived.Test.YtijhdlkfihjbiaaGreatDoorEpBig
import Derived.Test.YtijhdlkfihjbiaaGreatDoorEpAlive
namespace Go.Proofs.YtijhdlkfihjbiaaGreatDoor
open Go.RowKit

set_option maxHeartbeats 8000000 in
set_option maxRecDepth 20000 in
theorem etell_far (g : Bool) (A : Option Addr) (n c : Nat) (xs : List Nat) (e0 : Int) (s : Int) (w : World) (hT : Tab w) (hA : Lim w A n c xs) (hn : n ≤ 1048576) (hf : 20 < n ∨ (400 < s ∧ s ≤ 8900)) :
    Calls Tryz.prog 3 #[.agg #[.bool g, .slice A n c, .int .i64 e0], .int .i64 s] w fun e w' => e = .returned (.bool true) ∧ Below w.heap.size w w' := by
  obtain ⟨⟨ng, nV, nE⟩, hO⟩ : ∃ o, nO g (val xs) e0 = o := ⟨_, rfl⟩
  have a1 := below1 w (.cells #[.bool g, .slice A n c, .int .i64 e0] 24)
  have HS := Lib.hid a1
  have HT := Lib.hid (hT.below a1)
  have HXl := Lib.hid (hA.below a1)
  have HX := Lib.hid (Bd.new w 24 g A n c e0)
  have H1 := Lib.hid (ealive_any _ HT.out)
  have HO := Lib.hid hO
  have HFar : Hid (Hid (decide (20 < n ∨ (400 < s ∧ s ≤ 8900)) = true)) := Lib.hid (decide_eq_true hf)
  clear hT hA a1 hO hf
  go_enter Tryz.func3, Tryz.ntmps3
  go_wp2_with fail
  refine H1.out.mono ?_
  rintro e w1 ⟨rfl, hB⟩
  replace HT : Hid (Tab w1) := HT.out.below hB
  replace HXl : Hid (Lim w1 A n c xs) := HXl.out.below hB
  replace HX : Hid (Bd w1 w.heap.size 24 g A n c e0) := HX.out.below hB
  replace HS := Lib.hid (HS.out.trans (hB.mono HS.out.size))
  clear hB H1
  have HX_0 := HX.out.c0
  have HX_1 := HX.out.c1
  have HX_2 := HX.out.c2
  have H2 := eof_lB g A n c xs e0 w1 HXl.out hn
  rw [HO.out] at H2
  replace H2 := Lib.hid H2
  go_wp2_with fail
  refine H2.out.mono ?_
  rintro e w2 ⟨An, mn, cn, dn, rfl, hmn, hln, hbn, hvn, hB⟩
  clear HX_0 HX_1 HX_2
  replace HT : Hid (Tab w2) := HT.out.below hB
  replace HXl : Hid (Lim w2 A n c xs) := HXl.out.below hB
  replace HX : Hid (Bd w2 w.heap.size 24 g A n c e0) := HX.out.below hB
  replace HS := Lib.hid (HS.out.trans (hB.mono HS.out.size))
  dsimp only at hvn
  have HNd : Hid (Dig w2 An mn cn dn ∧ D.Bare dn ∧ D.val dn = nV) := ⟨hln, hbn, hvn⟩
  clear hln hbn hvn hB H2
  have ba := below1 w2 (.cells #[.bool ng, .slice An mn cn, .int .i64 nE] 28)
  replace HT : Hid (Tab (w2.alloc (.cells #[.bool ng, .slice An mn cn, .int .i64 nE] 28))) := HT.out.below ba
  replace HXl : Hid (Lim (w2.alloc (.cells #[.bool ng, .slice An mn cn, .int .i64 nE] 28)) A n c xs) := HXl.out.below ba
  replace HX : Hid (Bd (w2.alloc (.cells #[.bool ng, .slice An mn cn, .int .i64 nE] 28)) w.heap.size 24 g A n c e0) := HX.out.below ba
  replace HNd : Hid (Dig (w2.alloc (.cells #[.bool ng, .slice An mn cn, .int .i64 nE] 28)) An mn cn dn ∧ D.Bare dn ∧ D.val dn = nV) := ⟨HNd.out.1.below ba, HNd.out.2⟩
  replace HS := Lib.hid (HS.out.trans (ba.mono HS.out.size))
  clear ba
  have HNb : Hid (Bd (w2.alloc (.cells #[.bool ng, .slice An mn cn, .int .i64 nE] 28)) w2.heap.size 28 ng An mn cn nE) := Bd.new w2 28 ng An mn cn nE
  have HX_0 := HX.out.c0
  have HX_1 := HX.out.c1
  have HX_2 := HX.out.c2
  have H3 := Lib.hid (efar_l true g A n c e0 s (w2.alloc (.cells #[.bool ng, .slice An mn cn, .int .i64 nE] 28)) (by omega) HFar.out)
  go_wp2_with fail
  refine H3.out.mono ?_
  rintro e w3 ⟨rfl, hB⟩
  clear HX_0 HX_1 HX_2
  replace HT : Hid (Tab w3) := HT.out.below hB
  replace HXl : Hid (Lim w3 A n c xs) := HXl.out.below hB
  replace HX : Hid (Bd w3 w.heap.size 24 g A n c e0) := HX.out.below hB
  replace HNd : Hid (Dig w3 An mn cn dn ∧ D.Bare dn ∧ D.val dn = nV) := ⟨HNd.out.1.below hB, HNd.out.2⟩
  replace HNb : Hid (Bd w3 w2.heap.size 28 ng An mn cn nE) := HNb.out.below hB
  replace HS := Lib.hid (HS.out.trans (hB.mono HS.out.size))
  clear hB H3
  clear HFar
  have Hfin := Lib.hid HS.out
  clear HS HO HT HXl HX HNd HNb
  go_wp2
  go_ret
  exact ⟨rfl, Hfin.out⟩

set_option maxHeartbeats 8000000 in
set_option maxRecDepth 20000 in
theorem etell_high (g : Bool) (A : Option Addr) (n c : Nat) (xs : List Nat) (e0 : Int) (s : Int) (w : World) (hT : Tab w) (hA : Lim w A n c xs) (hn : n ≤ 1048576) (hf : ¬ (20 < n ∨ (400 < s ∧ s ≤ 8900))) (hs : 300 < s) :
    Calls Tryz.prog 3 #[.agg #[.bool g, .slice A n c, .int .i64 e0], .int .i64 s] w fun e w' => e = .returned (.bool true) ∧ Below w.heap.size w w' := by
  obtain ⟨⟨ng, nV, nE⟩, hO⟩ : ∃ o, nO g (val xs) e0 = o := ⟨_, rfl⟩
  have a1 := below1 w (.cells #[.bool g, .slice A n c, .int .i64 e0] 24)
  have HS := Lib.hid a1
  have HT := Lib.hid (hT.below a1)
  have HXl := Lib.hid (hA.below a1)
  have HX := Lib.hid (Bd.new w 24 g A n c e0)
  have H1 := Lib.hid (ealive_any _ HT.out)
  have HO := Lib.hid hO
  have HFar : Hid (Hid (decide (20 < n ∨ (400 < s ∧ s ≤ 8900)) = false)) := Lib.hid (decide_eq_false hf)
  have d3 : decide ((300 : Int) < s) = true := decide_eq_true hs
  clear hT hA a1 hO hf
  go_enter Tryz.func3, Tryz.ntmps3
  go_wp2_with fail
  refine H1.out.mono ?_
  rintro e w1 ⟨rfl, hB⟩
  replace HT : Hid (Tab w1) := HT.out.below hB
  replace HXl : Hid (Lim w1 A n c xs) := HXl.out.below hB
  replace HX : Hid (Bd w1 w.heap.size 24 g A n c e0) := HX.out.below hB
  replace HS := Lib.hid (HS.out.trans (hB.mono HS.out.size))
  clear hB H1
  have HX_0 := HX.out.c0
  have HX_1 := HX.out.c1
  have HX_2 := HX.out.c2
  have H2 := eof_lB g A n c xs e0 w1 HXl.out hn
  rw [HO.out] at H2
  replace H2 := Lib.hid H2
  go_wp2_with fail
  refine H2.out.mono ?_
  rintro e w2 ⟨An, mn, cn, dn, rfl, hmn, hln, hbn, hvn, hB⟩
  clear HX_0 HX_1 HX_2
  replace HT : Hid (Tab w2) := HT.out.below hB
  replace HXl : Hid (Lim w2 A n c xs) := HXl.out.below hB
  replace HX : Hid (Bd w2 w.heap.size 24 g A n c e0) := HX.out.below hB
  replace HS := Lib.hid (HS.out.trans (hB.mono HS.out.size))
  dsimp only at hvn
  have HNd : Hid (Dig w2 An mn cn dn ∧ D.Bare dn ∧ D.val dn = nV) := ⟨hln, hbn, hvn⟩
  clear hln hbn hvn hB H2
  have ba := below1 w2 (.cells #[.bool ng, .slice An mn cn, .int .i64 nE] 28)
  replace HT : Hid (Tab (w2.alloc (.cells #[.bool ng, .slice An mn cn, .int .i64 nE] 28))) := HT.out.below ba
  replace HXl : Hid (Lim (w2.alloc (.cells #[.bool ng, .slice An mn cn, .int .i64 nE] 28)) A n c xs) := HXl.out.below ba
  replace HX : Hid (Bd (w2.alloc (.cells #[.bool ng, .slice An mn cn, .int .i64 nE] 28)) w.heap.size 24 g A n c e0) := HX.out.below ba
  replace HNd : Hid (Dig (w2.alloc (.cells #[.bool ng, .slice An mn cn, .int .i64 nE] 28)) An mn cn dn ∧ D.Bare dn ∧ D.val dn = nV) := ⟨HNd.out.1.below ba, HNd.out.2⟩
  replace HS := Lib.hid (HS.out.trans (ba.mono HS.out.size))
  clear ba
  have HNb : Hid (Bd (w2.alloc (.cells #[.bool ng, .slice An mn cn, .int .i64 nE] 28)) w2.heap.size 28 ng An mn cn nE) := Bd.new w2 28 ng An mn cn nE
  have HX_0 := HX.out.c0
  have HX_1 := HX.out.c1
  have HX_2 := HX.out.c2
  have H3 := Lib.hid (efar_l false g A n c e0 s (w2.alloc (.cells #[.bool ng, .slice An mn cn, .int .i64 nE] 28)) (by omega) HFar.out)
  go_wp2_with fail
  refine H3.out.mono ?_
  rintro e w3 ⟨rfl, hB⟩
  clear HX_0 HX_1 HX_2
  replace HT : Hid (Tab w3) := HT.out.below hB
  replace HXl : Hid (Lim w3 A n c xs) := HXl.out.below hB
  replace HX : Hid (Bd w3 w.heap.size 24 g A n c e0) := HX.out.below hB
  replace HNd : Hid (Dig w3 An mn cn dn ∧ D.Bare dn ∧ D.val dn = nV) := ⟨HNd.out.1.below hB, HNd.out.2⟩
  replace HNb : Hid (Bd w3 w2.heap.size 28 ng An mn cn nE) := HNb.out.below hB
  replace HS := Lib.hid (HS.out.trans (hB.mono HS.out.size))
  clear hB H3
  clear HFar
  have Hfin := Lib.hid HS.out
  clear HS HO HT HXl HX HNd HNb
  go_wp2
  go_ret
  exact ⟨rfl, Hfin.out⟩

set_option maxHeartbeats 8000000 in
set_option maxRecDepth 20000 in
theorem etell_wrong (g : Bool) (A : Option Addr) (n c : Nat) (xs : List Nat) (e0 : Int) (s : Int) (w : World) (hT : Tab w) (hA : Lim w A n c xs) (hn : n ≤ 1048576) (hf : ¬ (20 < n ∨ (400 < s ∧ s ≤ 8900))) (hs : s ≤ 300) (hr : ¬ ((8 ≤ s ∧ s ≤ 8900) ∧ Right14 (nO g (val xs) e0).V (nO g (val xs) e0).e)) :
    Calls Tryz.prog 3 #[.agg #[.bool g, .slice A n c, .int .i64 e0], .int .i64 s] w fun e w' => e = .returned (.bool true) ∧ Below w.heap.size w w' := by
  obtain ⟨⟨ng, nV, nE⟩, hO⟩ : ∃ o, nO g (val xs) e0 = o := ⟨_, rfl⟩
  have a1 := below1 w (.cells #[.bool g, .slice A n c, .int .i64 e0] 24)
  have HS := Lib.hid a1
  have HT := Lib.hid (hT.below a1)
  have HXl := Lib.hid (hA.below a1)
  have HX := Lib.hid (Bd.new w 24 g A n c e0)
  have H1 := Lib.hid (ealive_any _ HT.out)
  have HO := Lib.hid hO
  have HFar : Hid (Hid (decide (20 < n ∨ (400 < s ∧ s ≤ 8900)) = false)) := Lib.hid (decide_eq_false hf)
  have d3 : decide ((300 : Int) < s) = false := decide_eq_false (by omega)
  rw [hO] at hr
  dsimp only at hr
  have HR : Hid (decide ((8 ≤ s ∧ s ≤ 8900) ∧ Right14 nV nE) = false) := decide_eq_false hr
  have hn20 : n ≤ 20 := by omega
  clear hT hA a1 hO hf hr
  go_enter Tryz.func3, Tryz.ntmps3
  go_wp2_with fail
  refine H1.out.mono ?_
  rintro e w1 ⟨rfl, hB⟩
  replace HT : Hid (Tab w1) := HT.out.below hB
  replace HXl : Hid (Lim w1 A n c xs) := HXl.out.below hB
  replace HX : Hid (Bd w1 w.heap.size 24 g A n c e0) := HX.out.below hB
  replace HS := Lib.hid (HS.out.trans (hB.mono HS.out.size))
  clear hB H1
  have HX_0 := HX.out.c0
  have HX_1 := HX.out.c1
  have HX_2 := HX.out.c2
  have H2 := eof_lB g A n c xs e0 w1 HXl.out hn
  rw [HO.out] at H2
  replace H2 := Lib.hid H2
  go_wp2_with fail
  refine H2.out.mono ?_
  rintro e w2 ⟨An, mn, cn, dn, rfl, hmn, hln, hbn, hvn, hB⟩
  clear HX_0 HX_1 HX_2
  replace HT : Hid (Tab w2) := HT.out.below hB
  replace HXl : Hid (Lim w2 A n c xs) := HXl.out.below hB
  replace HX : Hid (Bd w2 w.heap.size 24 g A n c e0) := HX.out.below hB
  replace HS := Lib.hid (HS.out.trans (hB.mono HS.out.size))
  dsimp only at hvn
  have HNd : Hid (Dig w2 An mn cn dn ∧ D.Bare dn ∧ D.val dn = nV) := ⟨hln, hbn, hvn⟩
  clear hln hbn hvn hB H2
  have ba := below1 w2 (.cells #[.bool ng, .slice An mn cn, .int .i64 nE] 28)
  replace HT : Hid (Tab (w2.alloc (.cells #[.bool ng, .slice An mn cn, .int .i64 nE] 28))) := HT.out.below ba
  replace HXl : Hid (Lim (w2.alloc (.cells #[.bool ng, .slice An mn cn, .int .i64 nE] 28)) A n c xs) := HXl.out.below ba
  replace HX : Hid (Bd (w2.alloc (.cells #[.bool ng, .slice An mn cn, .int .i64 nE] 28)) w.heap.size 24 g A n c e0) := HX.out.below ba
  replace HNd : Hid (Dig (w2.alloc (.cells #[.bool ng, .slice An mn cn, .int .i64 nE] 28)) An mn cn dn ∧ D.Bare dn ∧ D.val dn = nV) := ⟨HNd.out.1.below ba, HNd.out.2⟩
  replace HS := Lib.hid (HS.out.trans (ba.mono HS.out.size))
  clear ba
  have HNb : Hid (Bd (w2.alloc (.cells #[.bool ng, .slice An mn cn, .int .i64 nE] 28)) w2.heap.size 28 ng An mn cn nE) := Bd.new w2 28 ng An mn cn nE
  have HX_0 := HX.out.c0
  have HX_1 := HX.out.c1
  have HX_2 := HX.out.c2
  have H3 := Lib.hid (efar_l false g A n c e0 s (w2.alloc (.cells #[.bool ng, .slice An mn cn, .int .i64 nE] 28)) (by omega) HFar.out)
  go_wp2_with fail
  refine H3.out.mono ?_
  rintro e w3 ⟨rfl, hB⟩
  clear HX_0 HX_1 HX_2
  replace HT : Hid (Tab w3) := HT.out.below hB
  replace HXl : Hid (Lim w3 A n c xs) := HXl.out.below hB
  replace HX : Hid (Bd w3 w.heap.size 24 g A n c e0) := HX.out.below hB
  replace HNd : Hid (Dig w3 An mn cn dn ∧ D.Bare dn ∧ D.val dn = nV) := ⟨HNd.out.1.below hB, HNd.out.2⟩
  replace HNb : Hid (Bd w3 w2.heap.size 28 ng An mn cn nE) := HNb.out.below hB
  replace HS := Lib.hid (HS.out.trans (hB.mono HS.out.size))
  clear hB H3
  clear HFar
  have HNb_0 := HNb.out.c0
  have HNb_1 := HNb.out.c1
  have HNb_2 := HNb.out.c2
  have H4 := Lib.hid (eright_l false ng An mn cn dn nE s w3 HNd.out.1 HNd.out.2.1 (by omega) (by rw [HNd.out.2.2]; exact HR.out))
  go_wp2_with fail
  refine H4.out.mono ?_
  rintro e w4 ⟨rfl, hB⟩
  clear HNb_0 HNb_1 HNb_2
  replace HT : Hid (Tab w4) := HT.out.below hB
  replace HXl : Hid (Lim w4 A n c xs) := HXl.out.below hB
  replace HX : Hid (Bd w4 w.heap.size 24 g A n c e0) := HX.out.below hB
  replace HNd : Hid (Dig w4 An mn cn dn ∧ D.Bare dn ∧ D.val dn = nV) := ⟨HNd.out.1.below hB, HNd.out.2⟩
  replace HNb : Hid (Bd w4 w2.heap.size 28 ng An mn cn nE) := HNb.out.below hB
  replace HS := Lib.hid (HS.out.trans (hB.mono HS.out.size))
  clear hB H4
  have Hfin := Lib.hid HS.out
  clear HS HO HT HXl HX HNd HNb HR
  go_wp2
  go_ret
  exact ⟨rfl, Hfin.out⟩

set_option maxHeartbeats 8000000 in
set_option maxRecDepth 20000 in
theorem etell_wide (g : Bool) (A : Option Addr) (n c : Nat) (xs : List Nat) (e0 : Int) (z : Nat) (w : World) (hT : Tab w) (hA : Lim w A n c xs) (hn : n ≤ 1048576) (hn20 : n ≤ 20) (hz8 : 8 ≤ z) (hz9 : z ≤ 300) (hr : Right14 (nO g (val xs) e0).V (nO g (val xs) e0).e) (hw : ∃ k a b c d, EpW z (nO g (val xs) e0) (nO g (val xs) e0) k a b c d ∧ 2 ^ z < b) :
    Calls Tryz.prog 3 #[.agg #[.bool g, .slice A n c, .int .i64 e0], .int .i64 (z : Int)] w fun e w' => e = .returned (.bool true) ∧ Below w.heap.size w w' := by
  obtain ⟨⟨ng, nV, nE⟩, hO⟩ : ∃ o, nO g (val xs) e0 = o := ⟨_, rfl⟩
  have a1 := below1 w (.cells #[.bool g, .slice A n c, .int .i64 e0] 24)
  have HS := Lib.hid a1
  have HT := Lib.hid (hT.below a1)
  have HXl := Lib.hid (hA.below a1)
  have HX := Lib.hid (Bd.new w 24 g A n c e0)
  have H1 := Lib.hid (ealive_any _ HT.out)
  have HO := Lib.hid hO
  have HFar : Hid (Hid (decide (20 < n ∨ (400 < (z : Int) ∧ (z : Int) ≤ 8900)) = false)) := Lib.hid (decide_eq_false (by omega))
  have d3 : decide ((300 : Int) < (z : Int)) = false := decide_eq_false (by omega)
  have d3n : decide (300 < z) = false := decide_eq_false (by omega)
  have hRM := (right14_mid hO).1 (by rw [← hO]; exact hr)
  rw [hO] at hr hw
  dsimp only at hr hRM
  have HR : Hid (decide ((8 ≤ (z : Int) ∧ (z : Int) ≤ 8900) ∧ Right14 nV nE) = true) := decide_eq_true ⟨⟨by omega, by omega⟩, hr⟩
  have HM : Hid (mk g (val xs) e0 = some ⟨ng, nV, nE⟩ ∧ Mid ⟨ng, nV, nE⟩ ∧ Fine ⟨ng, nV, nE⟩) := ⟨hRM.1, hRM.2, (mk_fine hRM.1).1⟩
  have hE1 : -20000 ≤ nE := hRM.2.2.1
  have hE2 : nE ≤ 1073741824 := hr.1.2
  have HW := Lib.hid hw
  have h40 : z < 40 := by
    obtain ⟨k, a, b, c, d, h1, h2⟩ := hw
    rcases Nat.lt_or_ge z 40 with h | h
    · exact h
    · have := point_fits (n := ⟨ng, nV, nE⟩) h (by omega) HM.out.2.2 HM.out.2.1 h1
      omega
  have d40 : decide ((z : Int) < 40) = true := decide_eq_true (by omega)
  have d40n : decide (z < 40) = true := decide_eq_true h40
  clear hT hA a1 hO hr hRM hw
  go_enter Tryz.func3, Tryz.ntmps3
  go_wp2_with fail
  refine H1.out.mono ?_
  rintro e w1 ⟨rfl, hB⟩
  replace HT : Hid (Tab w1) := HT.out.below hB
  replace HXl : Hid (Lim w1 A n c xs) := HXl.out.below hB
  replace HX : Hid (Bd w1 w.heap.size 24 g A n c e0) := HX.out.below hB
  replace HS := Lib.hid (HS.out.trans (hB.mono HS.out.size))
  clear hB H1
  have HX_0 := HX.out.c0
  have HX_1 := HX.out.c1
  have HX_2 := HX.out.c2
  have H2 := eof_lB g A n c xs e0 w1 HXl.out hn
  rw [HO.out] at H2
  replace H2 := Lib.hid H2
  go_wp2_with fail
  refine H2.out.mono ?_
  rintro e w2 ⟨An, mn, cn, dn, rfl, hmn, hln, hbn, hvn, hB⟩
  clear HX_0 HX_1 HX_2
  replace HT : Hid (Tab w2) := HT.out.below hB
  replace HXl : Hid (Lim w2 A n c xs) := HXl.out.below hB
  replace HX : Hid (Bd w2 w.heap.size 24 g A n c e0) := HX.out.below hB
  replace HS := Lib.hid (HS.out.trans (hB.mono HS.out.size))
  dsimp only at hvn
  have HNd : Hid (Dig w2 An mn cn dn ∧ D.Bare dn ∧ D.val dn = nV) := ⟨hln, hbn, hvn⟩
  clear hln hbn hvn hB H2
  have ba := below1 w2 (.cells #[.bool ng, .slice An mn cn, .int .i64 nE] 28)
  replace HT : Hid (Tab (w2.alloc (.cells #[.bool ng, .slice An mn cn, .int .i64 nE] 28))) := HT.out.below ba
  replace HXl : Hid (Lim (w2.alloc (.cells #[.bool ng, .slice An mn cn, .int .i64 nE] 28)) A n c xs) := HXl.out.below ba
  replace HX : Hid (Bd (w2.alloc (.cells #[.bool ng, .slice An mn cn, .int .i64 nE] 28)) w.heap.size 24 g A n c e0) := HX.out.below ba
  replace HNd : Hid (Dig (w2.alloc (.cells #[.bool ng, .slice An mn cn, .int .i64 nE] 28)) An mn cn dn ∧ D.Bare dn ∧ D.val dn = nV) := ⟨HNd.out.1.below ba, HNd.out.2⟩
  replace HS := Lib.hid (HS.out.trans (ba.mono HS.out.size))
  clear ba
  have HNb : Hid (Bd (w2.alloc (.cells #[.bool ng, .slice An mn cn, .int .i64 nE] 28)) w2.heap.size 28 ng An mn cn nE) := Bd.new w2 28 ng An mn cn nE
  have HX_0 := HX.out.c0
  have HX_1 := HX.out.c1
  have HX_2 := HX.out.c2
  have H3 := Lib.hid (efar_l false g A n c e0 (z : Int) (w2.alloc (.cells #[.bool ng, .slice An mn cn, .int .i64 nE] 28)) (by omega) HFar.out)
  go_wp2_with fail
  refine H3.out.mono ?_
  rintro e w3 ⟨rfl, hB⟩
  clear HX_0 HX_1 HX_2
  replace HT : Hid (Tab w3) := HT.out.below hB
  replace HXl : Hid (Lim w3 A n c xs) := HXl.out.below hB
  replace HX : Hid (Bd w3 w.heap.size 24 g A n c e0) := HX.out.below hB
  replace HNd : Hid (Dig w3 An mn cn dn ∧ D.Bare dn ∧ D.val dn = nV) := ⟨HNd.out.1.below hB, HNd.out.2⟩
  replace HNb : Hid (Bd w3 w2.heap.size 28 ng An mn cn nE) := HNb.out.below hB
  replace HS := Lib.hid (HS.out.trans (hB.mono HS.out.size))
  clear hB H3
  clear HFar
  have HNb_0 := HNb.out.c0
  have HNb_1 := HNb.out.c1
  have HNb_2 := HNb.out.c2
  have H4 := Lib.hid (eright_l true ng An mn cn dn nE (z : Int) w3 HNd.out.1 HNd.out.2.1 (by omega) (by rw [HNd.out.2.2]; exact HR.out))
  go_wp2_with fail
  refine H4.out.mono ?_
  rintro e w4 ⟨rfl, hB⟩
  clear HNb_0 HNb_1 HNb_2
  replace HT : Hid (Tab w4) := HT.out.below hB
  replace HXl : Hid (Lim w4 A n c xs) := HXl.out.below hB
  replace HX : Hid (Bd w4 w.heap.size 24 g A n c e0) := HX.out.below hB
  replace HNd : Hid (Dig w4 An mn cn dn ∧ D.Bare dn ∧ D.val dn = nV) := ⟨HNd.out.1.below hB, HNd.out.2⟩
  replace HNb : Hid (Bd w4 w2.heap.size 28 ng An mn cn nE) := HNb.out.below hB
  replace HS := Lib.hid (HS.out.trans (hB.mono HS.out.size))
  clear hB H4
  clear HR
  have HX_0 := HX.out.c0
  have HX_1 := HX.out.c1
  have HX_2 := HX.out.c2
  have H5 := Lib.hid (exp_l g A n c xs e0 g A n c xs e0 (z : Int) w4 HXl.out HXl.out (by omega) (by omega) HT.out (by omega))
  go_wp2_with fail
  refine H5.out.mono ?_
  rintro e w5 ⟨g5a, A5a, m5a, c5a, s5a, e5a, g5b, A5b, m5b, c5b, s5b, e5b, r5, rfl, hm5a, hm5b, hl5a, hl5b, hb5a, hb5b, hB, hq⟩
  clear HX_0 HX_1 HX_2
  replace HT : Hid (Tab w5) := HT.out.below hB
  replace HXl : Hid (Lim w5 A n c xs) := HXl.out.below hB
  replace HX : Hid (Bd w5 w.heap.size 24 g A n c e0) := HX.out.below hB
  replace HNd : Hid (Dig w5 An mn cn dn ∧ D.Bare dn ∧ D.val dn = nV) := ⟨HNd.out.1.below hB, HNd.out.2⟩
  replace HNb : Hid (Bd w5 w2.heap.size 28 ng An mn cn nE) := HNb.out.below hB
  replace HS := Lib.hid (HS.out.trans (hB.mono HS.out.size))
  have HLi : Hid (Lim w5 A5a m5a c5a s5a) := hl5a
  have HHi : Hid (Lim w5 A5b m5b c5b s5b) := hl5b
  have HBi : Hid (Bare s5a ∧ Bare s5b) := ⟨hb5a, hb5b⟩
  obtain rfl := expp_wide HM.out.1 HW.out hq
  clear hl5a hl5b hb5a hb5b hB hq H5
  have ba := below1 w5 (.cells #[.bool g5a, .slice A5a m5a c5a, .int .i64 e5a, .bool g5b, .slice A5b m5b c5b, .int .i64 e5b] 34)
  replace HT : Hid (Tab (w5.alloc (.cells #[.bool g5a, .slice A5a m5a c5a, .int .i64 e5a, .bool g5b, .slice A5b m5b c5b, .int .i64 e5b] 34))) := HT.out.below ba
  replace HXl : Hid (Lim (w5.alloc (.cells #[.bool g5a, .slice A5a m5a c5a, .int .i64 e5a, .bool g5b, .slice A5b m5b c5b, .int .i64 e5b] 34)) A n c xs) := HXl.out.below ba
  replace HX : Hid (Bd (w5.alloc (.cells #[.bool g5a, .slice A5a m5a c5a, .int .i64 e5a, .bool g5b, .slice A5b m5b c5b, .int .i64 e5b] 34)) w.heap.size 24 g A n c e0) := HX.out.below ba
  replace HNd : Hid (Dig (w5.alloc (.cells #[.bool g5a, .slice A5a m5a c5a, .int .i64 e5a, .bool g5b, .slice A5b m5b c5b, .int .i64 e5b] 34)) An mn cn dn ∧ D.Bare dn ∧ D.val dn = nV) := ⟨HNd.out.1.below ba, HNd.out.2⟩
  replace HNb : Hid (Bd (w5.alloc (.cells #[.bool g5a, .slice A5a m5a c5a, .int .i64 e5a, .bool g5b, .slice A5b m5b c5b, .int .i64 e5b] 34)) w2.heap.size 28 ng An mn cn nE) := HNb.out.below ba
  replace HLi : Hid (Lim (w5.alloc (.cells #[.bool g5a, .slice A5a m5a c5a, .int .i64 e5a, .bool g5b, .slice A5b m5b c5b, .int .i64 e5b] 34)) A5a m5a c5a s5a) := HLi.out.below ba
  replace HHi : Hid (Lim (w5.alloc (.cells #[.bool g5a, .slice A5a m5a c5a, .int .i64 e5a, .bool g5b, .slice A5b m5b c5b, .int .i64 e5b] 34)) A5b m5b c5b s5b) := HHi.out.below ba
  replace HS := Lib.hid (HS.out.trans (ba.mono HS.out.size))
  clear ba
  have HIi : Hid (Ib (w5.alloc (.cells #[.bool g5a, .slice A5a m5a c5a, .int .i64 e5a, .bool g5b, .slice A5b m5b c5b, .int .i64 e5b] 34)) w5.heap.size g5a A5a m5a c5a e5a g5b A5b m5b c5b e5b) := Ib.new w5 g5a A5a m5a c5a e5a g5b A5b m5b c5b e5b
  clear hE1 hE2
  have Hfin := Lib.hid HS.out
  clear HS HO HT HXl HX HNd HNb HLi HHi HIi HM HW HBi
  go_wp2
  go_ret
  exact ⟨rfl, Hfin.out⟩

set_option maxHeartbeats 8000000 in
set_option maxRecDepth 20000 in
theorem etell_big (g : Bool) (A : Option Addr) (n c : Nat) (xs : List Nat) (e0 : Int) (z : Nat) (w : World) (hT : Tab w) (hA : Lim w A n c xs) (hn : n ≤ 1048576) (hn20 : n ≤ 20) (hz8 : 8 ≤ z) (hz9 : z ≤ 300) (hr : Right14 (nO g (val xs) e0).V (nO g (val xs) e0).e) (hw : ∀ k a b c d, EpW z (nO g (val xs) e0) (nO g (val xs) e0) k a b c d → b ≤ 2 ^ z) (ht : (nO g (val xs) e0).V ≠ 0 ∧ 9 < (blen (nO g (val xs) e0).V : Int) - 1 + (nO g (val xs) e0).e) :
    Calls Tryz.prog 3 #[.agg #[.bool g, .slice A n c, .int .i64 e0], .int .i64 (z : Int)] w fun e w' => e = .returned (.bool true) ∧ Below w.heap.size w w' := by
  obtain ⟨⟨ng, nV, nE⟩, hO⟩ : ∃ o, nO g (val xs) e0 = o := ⟨_, rfl⟩
  have a1 := below1 w (.cells #[.bool g, .slice A n c, .int .i64 e0] 24)
  have HS := Lib.hid a1
  have HT := Lib.hid (hT.below a1)
  have HXl := Lib.hid (hA.below a1)
  have HX := Lib.hid (Bd.new w 24 g A n c e0)
  have H1 := Lib.hid (ealive_any _ HT.out)
  have HO := Lib.hid hO
  have HFar : Hid (Hid (decide (20 < n ∨ (400 < (z : Int) ∧ (z : Int) ≤ 8900)) = false)) := Lib.hid (decide_eq_false (by omega))
  have d3 : decide ((300 : Int) < (z : Int)) = false := decide_eq_false (by omega)
  have d3n : decide (300 < z) = false := decide_eq_false (by omega)
  have hRM := (right14_mid hO).1 (by rw [← hO]; exact hr)
  rw [hO] at hr hw ht
  dsimp only at hr hRM ht
  have HR : Hid (decide ((8 ≤ (z : Int) ∧ (z : Int) ≤ 8900) ∧ Right14 nV nE) = true) := decide_eq_true ⟨⟨by omega, by omega⟩, hr⟩
  have HM : Hid (mk g (val xs) e0 = some ⟨ng, nV, nE⟩ ∧ Mid ⟨ng, nV, nE⟩ ∧ Fine ⟨ng, nV, nE⟩) := ⟨hRM.1, hRM.2, (mk_fine hRM.1).1⟩
  have hE1 : -20000 ≤ nE := hRM.2.2.1
  have hE2 : nE ≤ 1073741824 := hr.1.2
  have HW := Lib.hid hw
  have Ht := Lib.hid ht
  clear hT hA a1 hO hr hRM hw ht
  go_enter Tryz.func3, Tryz.ntmps3
  go_wp2_with fail
  refine H1.out.mono ?_
  rintro e w1 ⟨rfl, hB⟩
  replace HT : Hid (Tab w1) := HT.out.below hB
  replace HXl : Hid (Lim w1 A n c xs) := HXl.out.below hB
  replace HX : Hid (Bd w1 w.heap.size 24 g A n c e0) := HX.out.below hB
  replace HS := Lib.hid (HS.out.trans (hB.mono HS.out.size))
  clear hB H1
  have HX_0 := HX.out.c0
  have HX_1 := HX.out.c1
  have HX_2 := HX.out.c2
  have H2 := eof_lB g A n c xs e0 w1 HXl.out hn
  rw [HO.out] at H2
  replace H2 := Lib.hid H2
  go_wp2_with fail
  refine H2.out.mono ?_
  rintro e w2 ⟨An, mn, cn, dn, rfl, hmn, hln, hbn, hvn, hB⟩
  clear HX_0 HX_1 HX_2
  replace HT : Hid (Tab w2) := HT.out.below hB
  replace HXl : Hid (Lim w2 A n c xs) := HXl.out.below hB
  replace HX : Hid (Bd w2 w.heap.size 24 g A n c e0) := HX.out.below hB
  replace HS := Lib.hid (HS.out.trans (hB.mono HS.out.size))
  dsimp only at hvn
  have HNd : Hid (Dig w2 An mn cn dn ∧ D.Bare dn ∧ D.val dn = nV) := ⟨hln, hbn, hvn⟩
  clear hln hbn hvn hB H2
  have ba := below1 w2 (.cells #[.bool ng, .slice An mn cn, .int .i64 nE] 28)
  replace HT : Hid (Tab (w2.alloc (.cells #[.bool ng, .slice An mn cn, .int .i64 nE] 28))) := HT.out.below ba
  replace HXl : Hid (Lim (w2.alloc (.cells #[.bool ng, .slice An mn cn, .int .i64 nE] 28)) A n c xs) := HXl.out.below ba
  replace HX : Hid (Bd (w2.alloc (.cells #[.bool ng, .slice An mn cn, .int .i64 nE] 28)) w.heap.size 24 g A n c e0) := HX.out.below ba
  replace HNd : Hid (Dig (w2.alloc (.cells #[.bool ng, .slice An mn cn, .int .i64 nE] 28)) An mn cn dn ∧ D.Bare dn ∧ D.val dn = nV) := ⟨HNd.out.1.below ba, HNd.out.2⟩
  replace HS := Lib.hid (HS.out.trans (ba.mono HS.out.size))
  clear ba
  have HNb : Hid (Bd (w2.alloc (.cells #[.bool ng, .slice An mn cn, .int .i64 nE] 28)) w2.heap.size 28 ng An mn cn nE) := Bd.new w2 28 ng An mn cn nE
  have HX_0 := HX.out.c0
  have HX_1 := HX.out.c1
  have HX_2 := HX.out.c2
  have H3 := Lib.hid (efar_l false g A n c e0 (z : Int) (w2.alloc (.cells #[.bool ng, .slice An mn cn, .int .i64 nE] 28)) (by omega) HFar.out)
  go_wp2_with fail
  refine H3.out.mono ?_
  rintro e w3 ⟨rfl, hB⟩
  clear HX_0 HX_1 HX_2
  replace HT : Hid (Tab w3) := HT.out.below hB
  replace HXl : Hid (Lim w3 A n c xs) := HXl.out.below hB
  replace HX : Hid (Bd w3 w.heap.size 24 g A n c e0) := HX.out.below hB
  replace HNd : Hid (Dig w3 An mn cn dn ∧ D.Bare dn ∧ D.val dn = nV) := ⟨HNd.out.1.below hB, HNd.out.2⟩
  replace HNb : Hid (Bd w3 w2.heap.size 28 ng An mn cn nE) := HNb.out.below hB
  replace HS := Lib.hid (HS.out.trans (hB.mono HS.out.size))
  clear hB H3
  clear HFar
  have HNb_0 := HNb.out.c0
  have HNb_1 := HNb.out.c1
  have HNb_2 := HNb.out.c2
  have H4 := Lib.hid (eright_l true ng An mn cn dn nE (z : Int) w3 HNd.out.1 HNd.out.2.1 (by omega) (by rw [HNd.out.2.2]; exact HR.out))
  go_wp2_with fail
  refine H4.out.mono ?_
  rintro e w4 ⟨rfl, hB⟩
  clear HNb_0 HNb_1 HNb_2
  replace HT : Hid (Tab w4) := HT.out.below hB
  replace HXl : Hid (Lim w4 A n c xs) := HXl.out.below hB
  replace HX : Hid (Bd w4 w.heap.size 24 g A n c e0) := HX.out.below hB
  replace HNd : Hid (Dig w4 An mn cn dn ∧ D.Bare dn ∧ D.val dn = nV) := ⟨HNd.out.1.below hB, HNd.out.2⟩
  replace HNb : Hid (Bd w4 w2.heap.size 28 ng An mn cn nE) := HNb.out.below hB
  replace HS := Lib.hid (HS.out.trans (hB.mono HS.out.size))
  clear hB H4
  clear HR
  have HX_0 := HX.out.c0
  have HX_1 := HX.out.c1
  have HX_2 := HX.out.c2
  have H5 := Lib.hid (exp_l g A n c xs e0 g A n c xs e0 (z : Int) w4 HXl.out HXl.out (by omega) (by omega) HT.out (by omega))
  go_wp2_with fail
  refine H5.out.mono ?_
  rintro e w5 ⟨g5a, A5a, m5a, c5a, s5a, e5a, g5b, A5b, m5b, c5b, s5b, e5b, r5, rfl, hm5a, hm5b, hl5a, hl5b, hb5a, hb5b, hB, hq⟩
  clear HX_0 HX_1 HX_2
  replace HT : Hid (Tab w5) := HT.out.below hB
  replace HXl : Hid (Lim w5 A n c xs) := HXl.out.below hB
  replace HX : Hid (Bd w5 w.heap.size 24 g A n c e0) := HX.out.below hB
  replace HNd : Hid (Dig w5 An mn cn dn ∧ D.Bare dn ∧ D.val dn = nV) := ⟨HNd.out.1.below hB, HNd.out.2⟩
  replace HNb : Hid (Bd w5 w2.heap.size 28 ng An mn cn nE) := HNb.out.below hB
  replace HS := Lib.hid (HS.out.trans (hB.mono HS.out.size))
  have HLi : Hid (Lim w5 A5a m5a c5a s5a) := hl5a
  have HHi : Hid (Lim w5 A5b m5b c5b s5b) := hl5b
  have HBi : Hid (Bare s5a ∧ Bare s5b) := ⟨hb5a, hb5b⟩
  obtain ⟨rfl, kk, hE⟩ := expp_ok (X := ⟨g5a, val s5a, e5a⟩) (Y := ⟨g5b, val s5b, e5b⟩) HM.out.1 HM.out.1 HM.out.2.1 HM.out.2.1 (Int.le_refl _) (by omega) (by omega) HW.out hq
  have HE : Hid (EpV z ⟨ng, nV, nE⟩ ⟨ng, nV, nE⟩ kk ⟨g5a, val s5a, e5a⟩ ⟨g5b, val s5b, e5b⟩) := hE
  clear hE
  clear hl5a hl5b hb5a hb5b hB hq H5
  have ba := below1 w5 (.cells #[.bool g5a, .slice A5a m5a c5a, .int .i64 e5a, .bool g5b, .slice A5b m5b c5b, .int .i64 e5b] 34)
  replace HT : Hid (Tab (w5.alloc (.cells #[.bool g5a, .slice A5a m5a c5a, .int .i64 e5a, .bool g5b, .slice A5b m5b c5b, .int .i64 e5b] 34))) := HT.out.below ba
  replace HXl : Hid (Lim (w5.alloc (.cells #[.bool g5a, .slice A5a m5a c5a, .int .i64 e5a, .bool g5b, .slice A5b m5b c5b, .int .i64 e5b] 34)) A n c xs) := HXl.out.below ba
  replace HX : Hid (Bd (w5.alloc (.cells #[.bool g5a, .slice A5a m5a c5a, .int .i64 e5a, .bool g5b, .slice A5b m5b c5b, .int .i64 e5b] 34)) w.heap.size 24 g A n c e0) := HX.out.below ba
  replace HNd : Hid (Dig (w5.alloc (.cells #[.bool g5a, .slice A5a m5a c5a, .int .i64 e5a, .bool g5b, .slice A5b m5b c5b, .int .i64 e5b] 34)) An mn cn dn ∧ D.Bare dn ∧ D.val dn = nV) := ⟨HNd.out.1.below ba, HNd.out.2⟩
  replace HNb : Hid (Bd (w5.alloc (.cells #[.bool g5a, .slice A5a m5a c5a, .int .i64 e5a, .bool g5b, .slice A5b m5b c5b, .int .i64 e5b] 34)) w2.heap.size 28 ng An mn cn nE) := HNb.out.below ba
  replace HLi : Hid (Lim (w5.alloc (.cells #[.bool g5a, .slice A5a m5a c5a, .int .i64 e5a, .bool g5b, .slice A5b m5b c5b, .int .i64 e5b] 34)) A5a m5a c5a s5a) := HLi.out.below ba
  replace HHi : Hid (Lim (w5.alloc (.cells #[.bool g5a, .slice A5a m5a c5a, .int .i64 e5a, .bool g5b, .slice A5b m5b c5b, .int .i64 e5b] 34)) A5b m5b c5b s5b) := HHi.out.below ba
  replace HS := Lib.hid (HS.out.trans (ba.mono HS.out.size))
  clear ba
  have HIi : Hid (Ib (w5.alloc (.cells #[.bool g5a, .slice A5a m5a c5a, .int .i64 e5a, .bool g5b, .slice A5b m5b c5b, .int .i64 e5b] 34)) w5.heap.size g5a A5a m5a c5a e5a g5b A5b m5b c5b e5b) := Ib.new w5 g5a A5a m5a c5a e5a g5b A5b m5b c5b e5b
  clear HW
  have HNb_0 := HNb.out.c0
  have HNb_1 := HNb.out.c1
  have HNb_2 := HNb.out.c2
  have m0 : mn ≠ 0 := fun h => Ht.out.1 (by rw [← HNd.out.2.2]; exact (dig_nil HNd.out.1 HNd.out.2.1).1 h)
  have dm : decide ((0 : Int) < (mn : Int)) = true := decide_eq_true (by omega)
  have dmn : decide (0 < mn) = true := decide_eq_true (by omega)
  clear m0
  obtain ⟨tn, htn⟩ : ∃ t, rtop nV nE = t := ⟨_, rfl⟩
  have htn' : (blen nV : Int) - 1 + nE = tn := htn
  have dtn : decide ((9 : Int) < tn) = true := decide_eq_true (by have := Ht.out.2; omega)
  have H6 := Lib.hid (rtop_l tn ng An mn cn dn nE (w5.alloc (.cells #[.bool g5a, .slice A5a m5a c5a, .int .i64 e5a, .bool g5b, .slice A5b m5b c5b, .int .i64 e5b] 34)) HNd.out.1 HNd.out.2.1 (by omega) (by omega) (by omega) (by rw [HNd.out.2.2]; exact htn))
  clear htn htn'
  go_wp2_with fail
  refine H6.out.mono ?_
  rintro e w6 ⟨rfl, hB⟩
  clear HNb_0 HNb_1 HNb_2
  replace HT : Hid (Tab w6) := HT.out.below hB
  replace HXl : Hid (Lim w6 A n c xs) := HXl.out.below hB
  replace HX : Hid (Bd w6 w.heap.size 24 g A n c e0) := HX.out.below hB
  replace HNd : Hid (Dig w6 An mn cn dn ∧ D.Bare dn ∧ D.val dn = nV) := ⟨HNd.out.1.below hB, HNd.out.2⟩
  replace HNb : Hid (Bd w6 w2.heap.size 28 ng An mn cn nE) := HNb.out.below hB
  replace HLi : Hid (Lim w6 A5a m5a c5a s5a) := HLi.out.below hB
  replace HHi : Hid (Lim w6 A5b m5b c5b s5b) := HHi.out.below hB
  replace HIi : Hid (Ib w6 w5.heap.size g5a A5a m5a c5a e5a g5b A5b m5b c5b e5b) := HIi.out.below hB
  replace HS := Lib.hid (HS.out.trans (hB.mono HS.out.size))
  clear hB H6
  obtain ⟨vc, hvc⟩ : ∃ v, cmpI (dw g5a (val s5a) e5a) (dw g5b (val s5b) e5b) = v := ⟨_, rfl⟩
  have cvc : decide (vc ≤ (0 : Int)) = true := decide_eq_true (by rw [← hvc]; exact cmp_notup (rat_le.2 (tell_order (by omega) (by omega) HM.out.2.2 HM.out.2.1 HE.out)))
  have HVc := Lib.hid hvc
  clear hvc
  have HIi_0 := HIi.out.x0
  have HIi_1 := HIi.out.x1
  have HIi_2 := HIi.out.x2
  have HIi_3 := HIi.out.x3
  have HIi_4 := HIi.out.x4
  have HIi_5 := HIi.out.x5
  have H7 := Lib.hid (dcmp_l vc g5a A5a m5a c5a s5a e5a g5b A5b m5b c5b s5b e5b w6 HLi.out HHi.out (by omega) (by omega) HT.out HVc.out)
  go_wp2_with fail
  refine H7.out.mono ?_
  rintro e w7 ⟨rfl, hB⟩
  clear HIi_0 HIi_1 HIi_2 HIi_3 HIi_4 HIi_5
  replace HT : Hid (Tab w7) := HT.out.below hB
  replace HXl : Hid (Lim w7 A n c xs) := HXl.out.below hB
  replace HX : Hid (Bd w7 w.heap.size 24 g A n c e0) := HX.out.below hB
  replace HNd : Hid (Dig w7 An mn cn dn ∧ D.Bare dn ∧ D.val dn = nV) := ⟨HNd.out.1.below hB, HNd.out.2⟩
  replace HNb : Hid (Bd w7 w2.heap.size 28 ng An mn cn nE) := HNb.out.below hB
  replace HLi : Hid (Lim w7 A5a m5a c5a s5a) := HLi.out.below hB
  replace HHi : Hid (Lim w7 A5b m5b c5b s5b) := HHi.out.below hB
  replace HIi : Hid (Ib w7 w5.heap.size g5a A5a m5a c5a e5a g5b A5b m5b c5b e5b) := HIi.out.below hB
  replace HS := Lib.hid (HS.out.trans (hB.mono HS.out.size))
  clear hB H7
  clear hE1 hE2
  have Hfin := Lib.hid HS.out
  clear HS HO HT HXl HX HNd HNb HLi HHi HIi HM HE Ht HVc HBi
  go_wp2
  go_ret
  exact ⟨rfl, Hfin.out⟩

end Go.Proofs.YtijhdlkfihjbiaaGreatDoor
