/- The walk of the law IvShort (written by law_ishort.py). -/
import Derived.Test.YtnkbdjbcfkflpaaDoorIvShortE
namespace Go.Proofs.YtnkbdjbcfkflpaaDoor
open Go.RowKit

set_option maxHeartbeats 8000000 in
set_option maxRecDepth 20000 in
theorem ivshort_bad (bi : Int) (d1 d2 : Dy) (v1 : Bool) (g1 : Bool) (A1 : Option Addr) (n1 c1 : Nat) (xs1 : List Nat) (e1 : Int) (g2 : Bool) (A2 : Option Addr) (n2 c2 : Nat) (xs2 : List Nat) (e2 : Int) (w : World) (l1 : Lim w A1 n1 c1 xs1) (l2 : Lim w A2 n2 c2 xs2) (hT : Tab w) (HVA : Hid (decide (Near15 n1 e1 ∧ Near15 n2 e2) = true)) (N1 : Hid (Nm 3640 g1 (val xs1) e1 d1)) (N2 : Hid (Nm 3640 g2 (val xs2) e2 d2)) (Rv1 : Hid (decide ((dw g1 (val xs1) e1) ≤ (dw g2 (val xs2) e2)) = v1)) (hno : Hid (v1 = false ∨ bi < 1 ∨ 4096 < bi)) :
    Calls Tryd.prog 4 #[.agg #[.bool g1, .slice A1 n1 c1, .int .i64 e1, .bool g2, .slice A2 n2 c2, .int .i64 e2], .int .i64 bi] w fun e w' => e = .returned (.bool true) ∧ Below w.heap.size w w' := by
  have HT := Lib.hid hT
  have HS := Lib.hid (Below.refl w.heap.size w)
  have n19 := (of_decide_eq_true HVA.out).1.1
  have n29 := (of_decide_eq_true HVA.out).2.1
  have H1 : Hid (Lim w A1 n1 c1 xs1) := l1
  have H2 : Hid (Lim w A2 n2 c2 xs2) := l2
  clear l1 l2 hT
  have ba := below1 w (.cells #[.bool g1, .slice A1 n1 c1, .int .i64 e1, .bool g2, .slice A2 n2 c2, .int .i64 e2] 26)
  replace HT : Hid (Tab (w.alloc (.cells #[.bool g1, .slice A1 n1 c1, .int .i64 e1, .bool g2, .slice A2 n2 c2, .int .i64 e2] 26))) := HT.out.below ba
  replace H1 : Hid (Lim (w.alloc (.cells #[.bool g1, .slice A1 n1 c1, .int .i64 e1, .bool g2, .slice A2 n2 c2, .int .i64 e2] 26)) A1 n1 c1 xs1) := H1.out.below ba
  replace H2 : Hid (Lim (w.alloc (.cells #[.bool g1, .slice A1 n1 c1, .int .i64 e1, .bool g2, .slice A2 n2 c2, .int .i64 e2] 26)) A2 n2 c2 xs2) := H2.out.below ba
  replace HS := Lib.hid (HS.out.trans (ba.mono HS.out.size))
  clear ba
  have Ja : Hid (Jb (w.alloc (.cells #[.bool g1, .slice A1 n1 c1, .int .i64 e1, .bool g2, .slice A2 n2 c2, .int .i64 e2] 26)) w.heap.size g1 A1 n1 c1 e1 g2 A2 n2 c2 e2) := Jb.new w g1 A1 n1 c1 e1 g2 A2 n2 c2 e2
  have K := Lib.hid (ivalive_any (w.alloc (.cells #[.bool g1, .slice A1 n1 c1, .int .i64 e1, .bool g2, .slice A2 n2 c2, .int .i64 e2] 26)) HT.out)
  go_enter Tryd.func4, Tryd.ntmps4
  go_wp2_with fail
  refine K.out.mono ?_
  rintro e w1 ⟨rfl, hB⟩
  replace HT : Hid (Tab w1) := HT.out.below hB
  replace H1 : Hid (Lim w1 A1 n1 c1 xs1) := H1.out.below hB
  replace H2 : Hid (Lim w1 A2 n2 c2 xs2) := H2.out.below hB
  replace Ja : Hid (Jb w1 w.heap.size g1 A1 n1 c1 e1 g2 A2 n2 c2 e2) := Ja.out.below hB
  replace HS := Lib.hid (HS.out.trans (hB.mono HS.out.size))
  clear hB K
  have Ja_0 := Ja.out.x0
  have Ja_1 := Ja.out.x1
  have Ja_2 := Ja.out.x2
  have Ja_3 := Ja.out.x3
  have Ja_4 := Ja.out.x4
  have Ja_5 := Ja.out.x5
  have K := Lib.hid (near15_l true g1 A1 n1 c1 e1 g2 A2 n2 c2 e2 w1 HVA)
  go_wp2_with fail
  refine K.out.mono ?_
  rintro e w2 ⟨rfl, hB⟩
  clear Ja_0 Ja_1 Ja_2 Ja_3 Ja_4 Ja_5
  replace HT : Hid (Tab w2) := HT.out.below hB
  replace H1 : Hid (Lim w2 A1 n1 c1 xs1) := H1.out.below hB
  replace H2 : Hid (Lim w2 A2 n2 c2 xs2) := H2.out.below hB
  replace Ja : Hid (Jb w2 w.heap.size g1 A1 n1 c1 e1 g2 A2 n2 c2 e2) := Ja.out.below hB
  replace HS := Lib.hid (HS.out.trans (hB.mono HS.out.size))
  clear hB K
  have Ja_0 := Ja.out.x0
  have Ja_1 := Ja.out.x1
  have Ja_2 := Ja.out.x2
  have Ja_3 := Ja.out.x3
  have Ja_4 := Ja.out.x4
  have Ja_5 := Ja.out.x5
  have K := Lib.hid (of15_l g1 A1 n1 c1 e1 g2 A2 n2 c2 e2 w2)
  go_wp2_with fail
  refine K.out.mono ?_
  rintro e w3 ⟨rfl, hB⟩
  clear Ja_0 Ja_1 Ja_2 Ja_3 Ja_4 Ja_5
  replace HT : Hid (Tab w3) := HT.out.below hB
  replace H1 : Hid (Lim w3 A1 n1 c1 xs1) := H1.out.below hB
  replace H2 : Hid (Lim w3 A2 n2 c2 xs2) := H2.out.below hB
  replace Ja : Hid (Jb w3 w.heap.size g1 A1 n1 c1 e1 g2 A2 n2 c2 e2) := Ja.out.below hB
  replace HS := Lib.hid (HS.out.trans (hB.mono HS.out.size))
  clear hB K
  have Ja_0 := Ja.out.x0
  have Ja_1 := Ja.out.x1
  have Ja_2 := Ja.out.x2
  have Ja_3 := Ja.out.x3
  have Ja_4 := Ja.out.x4
  have Ja_5 := Ja.out.x5
  have K := Lib.hid (ivshort_no bi v1 d1 d2 g1 A1 n1 c1 xs1 e1 g2 A2 n2 c2 xs2 e2 w3 H1.out (by omega) H2.out (by omega) HT.out (Lib.hid N1.out.1) (Lib.hid N2.out.1) Rv1 hno.out)
  go_wp2_with fail
  refine K.out.mono ?_
  rintro e w4 ⟨ga, Aa, ma, ca, za, ea, gb, Ab, mb, cb, zb, eb, r, rfl, hma, hmb, hla, hlb, hba, hbb, hB, hr, h0a, h0b⟩
  subst hr h0a h0b
  clear Ja_0 Ja_1 Ja_2 Ja_3 Ja_4 Ja_5
  replace HT : Hid (Tab w4) := HT.out.below hB
  replace H1 : Hid (Lim w4 A1 n1 c1 xs1) := H1.out.below hB
  replace H2 : Hid (Lim w4 A2 n2 c2 xs2) := H2.out.below hB
  replace Ja : Hid (Jb w4 w.heap.size g1 A1 n1 c1 e1 g2 A2 n2 c2 e2) := Ja.out.below hB
  replace HS := Lib.hid (HS.out.trans (hB.mono HS.out.size))
  clear hla hlb hba hbb hma hmb hB K
  have ba := below1 w4 (.cells #[.bool ga, .slice Aa 0 ca, .int .i64 ea, .bool gb, .slice Ab 0 cb, .int .i64 eb] 38)
  replace HT : Hid (Tab (w4.alloc (.cells #[.bool ga, .slice Aa 0 ca, .int .i64 ea, .bool gb, .slice Ab 0 cb, .int .i64 eb] 38))) := HT.out.below ba
  replace H1 : Hid (Lim (w4.alloc (.cells #[.bool ga, .slice Aa 0 ca, .int .i64 ea, .bool gb, .slice Ab 0 cb, .int .i64 eb] 38)) A1 n1 c1 xs1) := H1.out.below ba
  replace H2 : Hid (Lim (w4.alloc (.cells #[.bool ga, .slice Aa 0 ca, .int .i64 ea, .bool gb, .slice Ab 0 cb, .int .i64 eb] 38)) A2 n2 c2 xs2) := H2.out.below ba
  replace Ja : Hid (Jb (w4.alloc (.cells #[.bool ga, .slice Aa 0 ca, .int .i64 ea, .bool gb, .slice Ab 0 cb, .int .i64 eb] 38)) w.heap.size g1 A1 n1 c1 e1 g2 A2 n2 c2 e2) := Ja.out.below ba
  replace HS := Lib.hid (HS.out.trans (ba.mono HS.out.size))
  clear ba
  have HIs : Hid (Ib (w4.alloc (.cells #[.bool ga, .slice Aa 0 ca, .int .i64 ea, .bool gb, .slice Ab 0 cb, .int .i64 eb] 38)) w4.heap.size ga Aa 0 ca ea gb Ab 0 cb eb) := Ib.new w4 ga Aa 0 ca ea gb Ab 0 cb eb
  have Ja_0 := Ja.out.x0
  have Ja_1 := Ja.out.x1
  have Ja_2 := Ja.out.x2
  have Ja_3 := Ja.out.x3
  have Ja_4 := Ja.out.x4
  have Ja_5 := Ja.out.x5
  have K := Lib.hid (of15_l g1 A1 n1 c1 e1 g2 A2 n2 c2 e2 (w4.alloc (.cells #[.bool ga, .slice Aa 0 ca, .int .i64 ea, .bool gb, .slice Ab 0 cb, .int .i64 eb] 38)))
  go_wp2_with fail
  refine K.out.mono ?_
  rintro e w5 ⟨rfl, hB⟩
  clear Ja_0 Ja_1 Ja_2 Ja_3 Ja_4 Ja_5
  replace HT : Hid (Tab w5) := HT.out.below hB
  replace H1 : Hid (Lim w5 A1 n1 c1 xs1) := H1.out.below hB
  replace H2 : Hid (Lim w5 A2 n2 c2 xs2) := H2.out.below hB
  replace Ja : Hid (Jb w5 w.heap.size g1 A1 n1 c1 e1 g2 A2 n2 c2 e2) := Ja.out.below hB
  replace HIs : Hid (Ib w5 w4.heap.size ga Aa 0 ca ea gb Ab 0 cb eb) := HIs.out.below hB
  replace HS := Lib.hid (HS.out.trans (hB.mono HS.out.size))
  clear hB K
  have Ja_0 := Ja.out.x0
  have Ja_1 := Ja.out.x1
  have Ja_2 := Ja.out.x2
  have Ja_3 := Ja.out.x3
  have Ja_4 := Ja.out.x4
  have Ja_5 := Ja.out.x5
  have K := Lib.hid (iright_l v1 d1 d2 g1 A1 n1 c1 xs1 e1 g2 A2 n2 c2 xs2 e2 w5 H1.out (by omega) H2.out (by omega) HT.out (Lib.hid N1.out.1) (Lib.hid N2.out.1) Rv1)
  go_wp2_with fail
  refine K.out.mono ?_
  rintro e w6 ⟨rfl, hB⟩
  clear Ja_0 Ja_1 Ja_2 Ja_3 Ja_4 Ja_5
  replace HT : Hid (Tab w6) := HT.out.below hB
  replace H1 : Hid (Lim w6 A1 n1 c1 xs1) := H1.out.below hB
  replace H2 : Hid (Lim w6 A2 n2 c2 xs2) := H2.out.below hB
  replace Ja : Hid (Jb w6 w.heap.size g1 A1 n1 c1 e1 g2 A2 n2 c2 e2) := Ja.out.below hB
  replace HIs : Hid (Ib w6 w4.heap.size ga Aa 0 ca ea gb Ab 0 cb eb) := HIs.out.below hB
  replace HS := Lib.hid (HS.out.trans (hB.mono HS.out.size))
  clear hB K
  have HIs_0 := HIs.out.x0
  have HIs_1 := HIs.out.x1
  have HIs_2 := HIs.out.x2
  have HIs_3 := HIs.out.x3
  have HIs_4 := HIs.out.x4
  have HIs_5 := HIs.out.x5
  cases v1
  · skip
    have Hfin := Lib.hid HS.out
    clear HS HT H1 H2 Ja HIs HVA N1 N2 Rv1 hno
    go_wp2
    go_ret
    exact ⟨rfl, Hfin.out⟩
  · by_cases zc : bi < 1
    · have zd : decide (bi < 1) = true := decide_eq_true zc
      clear zc
      have Hfin := Lib.hid HS.out
      clear HS HT H1 H2 Ja HIs HVA N1 N2 Rv1 hno
      go_wp2
      go_ret
      exact ⟨rfl, Hfin.out⟩
    · have zd : decide (bi < 1) = false := decide_eq_false zc
      have zf : 4096 < bi := by rcases hno.out with h | h | h; cases h; exact absurd h zc; exact h
      have zg : decide (4096 < bi) = true := decide_eq_true zf
      clear zc zf
      have Hfin := Lib.hid HS.out
      clear HS HT H1 H2 Ja HIs HVA N1 N2 Rv1 hno
      go_wp2
      go_ret
      exact ⟨rfl, Hfin.out⟩
set_option maxHeartbeats 8000000 in
set_option maxRecDepth 20000 in
theorem ivshort_good (b : Nat) (X Y : Dy) (d1 d2 : Dy) (v1 : Bool) (g1 : Bool) (A1 : Option Addr) (n1 c1 : Nat) (xs1 : List Nat) (e1 : Int) (g2 : Bool) (A2 : Option Addr) (n2 c2 : Nat) (xs2 : List Nat) (e2 : Int) (w : World) (l1 : Lim w A1 n1 c1 xs1) (l2 : Lim w A2 n2 c2 xs2) (hT : Tab w) (HVA : Hid (decide (Near15 n1 e1 ∧ Near15 n2 e2) = true)) (N1 : Hid (Nm 3640 g1 (val xs1) e1 d1)) (N2 : Hid (Nm 3640 g2 (val xs2) e2 d2)) (Rv1 : Hid (decide ((dw g1 (val xs1) e1) ≤ (dw g2 (val xs2) e2)) = v1)) (hv1 : v1 = true) (hb1 : 1 ≤ b) (hb2 : b ≤ 4096) (hX : Hid (ShC b 3 d1 X ∧ ShC b 3 X X ∧ Sp 3641 X ∧ EndF d1 X b ∧ dwD X ≤ dwD d1)) (hY : Hid (ShC b 2 d2 Y ∧ ShC b 2 Y Y ∧ Sp 3641 Y ∧ EndF d2 Y b ∧ dwD d2 ≤ dwD Y)) :
    Calls Tryd.prog 4 #[.agg #[.bool g1, .slice A1 n1 c1, .int .i64 e1, .bool g2, .slice A2 n2 c2, .int .i64 e2], .int .i64 (b : Int)] w fun e w' => e = .returned (.bool true) ∧ Below w.heap.size w w' := by
  have HT := Lib.hid hT
  have HS := Lib.hid (Below.refl w.heap.size w)
  have n19 := (of_decide_eq_true HVA.out).1.1
  have n29 := (of_decide_eq_true HVA.out).2.1
  have H1 : Hid (Lim w A1 n1 c1 xs1) := l1
  have H2 : Hid (Lim w A2 n2 c2 xs2) := l2
  clear l1 l2 hT
  have ba := below1 w (.cells #[.bool g1, .slice A1 n1 c1, .int .i64 e1, .bool g2, .slice A2 n2 c2, .int .i64 e2] 26)
  replace HT : Hid (Tab (w.alloc (.cells #[.bool g1, .slice A1 n1 c1, .int .i64 e1, .bool g2, .slice A2 n2 c2, .int .i64 e2] 26))) := HT.out.below ba
  replace H1 : Hid (Lim (w.alloc (.cells #[.bool g1, .slice A1 n1 c1, .int .i64 e1, .bool g2, .slice A2 n2 c2, .int .i64 e2] 26)) A1 n1 c1 xs1) := H1.out.below ba
  replace H2 : Hid (Lim (w.alloc (.cells #[.bool g1, .slice A1 n1 c1, .int .i64 e1, .bool g2, .slice A2 n2 c2, .int .i64 e2] 26)) A2 n2 c2 xs2) := H2.out.below ba
  replace HS := Lib.hid (HS.out.trans (ba.mono HS.out.size))
  clear ba
  have Ja : Hid (Jb (w.alloc (.cells #[.bool g1, .slice A1 n1 c1, .int .i64 e1, .bool g2, .slice A2 n2 c2, .int .i64 e2] 26)) w.heap.size g1 A1 n1 c1 e1 g2 A2 n2 c2 e2) := Jb.new w g1 A1 n1 c1 e1 g2 A2 n2 c2 e2
  have K := Lib.hid (ivalive_any (w.alloc (.cells #[.bool g1, .slice A1 n1 c1, .int .i64 e1, .bool g2, .slice A2 n2 c2, .int .i64 e2] 26)) HT.out)
  subst hv1
  have zb1 : decide ((b : Int) < 1) = false := decide_eq_false (by omega)
  have zb2 : decide (b < 1) = false := decide_eq_false (by omega)
  have zb3 : decide ((4096 : Int) < (b : Int)) = false := decide_eq_false (by omega)
  have zb4 : decide (4096 < b) = false := decide_eq_false (by omega)
  have r12 := of_decide_eq_true Rv1.out
  rw [N1.out.2.2, N2.out.2.2] at r12
  have R12 := Lib.hid r12
  clear r12
  have HSp : Hid (Sp 9000 X ∧ Sp 9000 Y) := ⟨hX.out.2.2.1.mono (by omega), hY.out.2.2.1.mono (by omega)⟩
  go_enter Tryd.func4, Tryd.ntmps4
  go_wp2_with fail
  refine K.out.mono ?_
  rintro e w1 ⟨rfl, hB⟩
  replace HT : Hid (Tab w1) := HT.out.below hB
  replace H1 : Hid (Lim w1 A1 n1 c1 xs1) := H1.out.below hB
  replace H2 : Hid (Lim w1 A2 n2 c2 xs2) := H2.out.below hB
  replace Ja : Hid (Jb w1 w.heap.size g1 A1 n1 c1 e1 g2 A2 n2 c2 e2) := Ja.out.below hB
  replace HS := Lib.hid (HS.out.trans (hB.mono HS.out.size))
  clear hB K
  have Ja_0 := Ja.out.x0
  have Ja_1 := Ja.out.x1
  have Ja_2 := Ja.out.x2
  have Ja_3 := Ja.out.x3
  have Ja_4 := Ja.out.x4
  have Ja_5 := Ja.out.x5
  have K := Lib.hid (near15_l true g1 A1 n1 c1 e1 g2 A2 n2 c2 e2 w1 HVA)
  go_wp2_with fail
  refine K.out.mono ?_
  rintro e w2 ⟨rfl, hB⟩
  clear Ja_0 Ja_1 Ja_2 Ja_3 Ja_4 Ja_5
  replace HT : Hid (Tab w2) := HT.out.below hB
  replace H1 : Hid (Lim w2 A1 n1 c1 xs1) := H1.out.below hB
  replace H2 : Hid (Lim w2 A2 n2 c2 xs2) := H2.out.below hB
  replace Ja : Hid (Jb w2 w.heap.size g1 A1 n1 c1 e1 g2 A2 n2 c2 e2) := Ja.out.below hB
  replace HS := Lib.hid (HS.out.trans (hB.mono HS.out.size))
  clear hB K
  have Ja_0 := Ja.out.x0
  have Ja_1 := Ja.out.x1
  have Ja_2 := Ja.out.x2
  have Ja_3 := Ja.out.x3
  have Ja_4 := Ja.out.x4
  have Ja_5 := Ja.out.x5
  have K := Lib.hid (of15_l g1 A1 n1 c1 e1 g2 A2 n2 c2 e2 w2)
  go_wp2_with fail
  refine K.out.mono ?_
  rintro e w3 ⟨rfl, hB⟩
  clear Ja_0 Ja_1 Ja_2 Ja_3 Ja_4 Ja_5
  replace HT : Hid (Tab w3) := HT.out.below hB
  replace H1 : Hid (Lim w3 A1 n1 c1 xs1) := H1.out.below hB
  replace H2 : Hid (Lim w3 A2 n2 c2 xs2) := H2.out.below hB
  replace Ja : Hid (Jb w3 w.heap.size g1 A1 n1 c1 e1 g2 A2 n2 c2 e2) := Ja.out.below hB
  replace HS := Lib.hid (HS.out.trans (hB.mono HS.out.size))
  clear hB K
  have Ja_0 := Ja.out.x0
  have Ja_1 := Ja.out.x1
  have Ja_2 := Ja.out.x2
  have Ja_3 := Ja.out.x3
  have Ja_4 := Ja.out.x4
  have Ja_5 := Ja.out.x5
  have K : Hid (Calls Tryd.prog 24 #[.agg #[.bool g1, .slice A1 n1 c1, .int .i64 e1, .bool g2, .slice A2 n2 c2, .int .i64 e2], .int .i64 (b : Int)] w3 (STold w3 (fun S T => S = X ∧ T = Y))) := (ivshort_yes b X Y d1 d2 g1 A1 n1 c1 xs1 e1 g2 A2 n2 c2 xs2 e2 w3 H1.out (by omega) H2.out (by omega) HT.out (Lib.hid N1.out.1) (Lib.hid N2.out.1) Rv1 hb1 hb2 (Lib.hid fun u hl hT => hX.out.1 _ _ _ _ _ _ u N1.out.1 (by omega) hl hT) (Lib.hid fun u hl hT => hY.out.1 _ _ _ _ _ _ u N2.out.1 (by omega) hl hT)).mono fun _ _ h => vtold_short h fun S T hq => ⟨by rw [hq.1]; exact HSp.out.1, by rw [hq.2]; exact HSp.out.2⟩
  go_wp2_with fail
  refine K.out.mono ?_
  rintro e ws4 ⟨gsa, Asa, msa, csa, ssa, esa, gsb, Asb, msb, csb, ssb, esb, rfl, hmsa, hmsb, hla, hlb, hba, hbb, hB, hQ⟩
  clear Ja_0 Ja_1 Ja_2 Ja_3 Ja_4 Ja_5
  replace HT : Hid (Tab ws4) := HT.out.below hB
  replace H1 : Hid (Lim ws4 A1 n1 c1 xs1) := H1.out.below hB
  replace H2 : Hid (Lim ws4 A2 n2 c2 xs2) := H2.out.below hB
  replace Ja : Hid (Jb ws4 w.heap.size g1 A1 n1 c1 e1 g2 A2 n2 c2 e2) := Ja.out.below hB
  replace HS := Lib.hid (HS.out.trans (hB.mono HS.out.size))
  have HLs : Hid (Lim ws4 Asa msa csa ssa) := hla
  have HHs : Hid (Lim ws4 Asb msb csb ssb) := hlb
  have HQs : Hid (Bare ssa ∧ Bare ssb ∧ (⟨gsa, val ssa, esa⟩ : Dy) = X ∧ (⟨gsb, val ssb, esb⟩ : Dy) = Y) := ⟨hba, hbb, hQ⟩
  clear hla hlb hba hbb hQ hB K
  have ba := below1 ws4 (.cells #[.bool gsa, .slice Asa msa csa, .int .i64 esa, .bool gsb, .slice Asb msb csb, .int .i64 esb] 38)
  replace HT : Hid (Tab (ws4.alloc (.cells #[.bool gsa, .slice Asa msa csa, .int .i64 esa, .bool gsb, .slice Asb msb csb, .int .i64 esb] 38))) := HT.out.below ba
  replace H1 : Hid (Lim (ws4.alloc (.cells #[.bool gsa, .slice Asa msa csa, .int .i64 esa, .bool gsb, .slice Asb msb csb, .int .i64 esb] 38)) A1 n1 c1 xs1) := H1.out.below ba
  replace H2 : Hid (Lim (ws4.alloc (.cells #[.bool gsa, .slice Asa msa csa, .int .i64 esa, .bool gsb, .slice Asb msb csb, .int .i64 esb] 38)) A2 n2 c2 xs2) := H2.out.below ba
  replace Ja : Hid (Jb (ws4.alloc (.cells #[.bool gsa, .slice Asa msa csa, .int .i64 esa, .bool gsb, .slice Asb msb csb, .int .i64 esb] 38)) w.heap.size g1 A1 n1 c1 e1 g2 A2 n2 c2 e2) := Ja.out.below ba
  replace HLs : Hid (Lim (ws4.alloc (.cells #[.bool gsa, .slice Asa msa csa, .int .i64 esa, .bool gsb, .slice Asb msb csb, .int .i64 esb] 38)) Asa msa csa ssa) := HLs.out.below ba
  replace HHs : Hid (Lim (ws4.alloc (.cells #[.bool gsa, .slice Asa msa csa, .int .i64 esa, .bool gsb, .slice Asb msb csb, .int .i64 esb] 38)) Asb msb csb ssb) := HHs.out.below ba
  replace HS := Lib.hid (HS.out.trans (ba.mono HS.out.size))
  clear ba
  have HIs : Hid (Ib (ws4.alloc (.cells #[.bool gsa, .slice Asa msa csa, .int .i64 esa, .bool gsb, .slice Asb msb csb, .int .i64 esb] 38)) ws4.heap.size gsa Asa msa csa esa gsb Asb msb csb esb) := Ib.new ws4 gsa Asa msa csa esa gsb Asb msb csb esb
  have NS : Hid (Nm 3641 gsa (val ssa) esa X ∧ Nm 3641 gsb (val ssb) esb Y) := ⟨nm_eq HQs.out.2.2.1 hX.out.2.2.1, nm_eq HQs.out.2.2.2 hY.out.2.2.1⟩
  have BS : Hid (Bare ssa ∧ Bare ssb) := ⟨HQs.out.1, HQs.out.2.1⟩
  have EQS : Hid ((⟨gsa, val ssa, esa⟩ : Dy) = X ∧ (⟨gsb, val ssb, esb⟩ : Dy) = Y) := ⟨HQs.out.2.2.1, HQs.out.2.2.2⟩
  clear HQs
  have Ja_0 := Ja.out.x0
  have Ja_1 := Ja.out.x1
  have Ja_2 := Ja.out.x2
  have Ja_3 := Ja.out.x3
  have Ja_4 := Ja.out.x4
  have Ja_5 := Ja.out.x5
  have K := Lib.hid (of15_l g1 A1 n1 c1 e1 g2 A2 n2 c2 e2 (ws4.alloc (.cells #[.bool gsa, .slice Asa msa csa, .int .i64 esa, .bool gsb, .slice Asb msb csb, .int .i64 esb] 38)))
  go_wp2_with fail
  refine K.out.mono ?_
  rintro e w5 ⟨rfl, hB⟩
  clear Ja_0 Ja_1 Ja_2 Ja_3 Ja_4 Ja_5
  replace HT : Hid (Tab w5) := HT.out.below hB
  replace H1 : Hid (Lim w5 A1 n1 c1 xs1) := H1.out.below hB
  replace H2 : Hid (Lim w5 A2 n2 c2 xs2) := H2.out.below hB
  replace Ja : Hid (Jb w5 w.heap.size g1 A1 n1 c1 e1 g2 A2 n2 c2 e2) := Ja.out.below hB
  replace HLs : Hid (Lim w5 Asa msa csa ssa) := HLs.out.below hB
  replace HHs : Hid (Lim w5 Asb msb csb ssb) := HHs.out.below hB
  replace HIs : Hid (Ib w5 ws4.heap.size gsa Asa msa csa esa gsb Asb msb csb esb) := HIs.out.below hB
  replace HS := Lib.hid (HS.out.trans (hB.mono HS.out.size))
  clear hB K
  have Ja_0 := Ja.out.x0
  have Ja_1 := Ja.out.x1
  have Ja_2 := Ja.out.x2
  have Ja_3 := Ja.out.x3
  have Ja_4 := Ja.out.x4
  have Ja_5 := Ja.out.x5
  have K := Lib.hid (iright_l true d1 d2 g1 A1 n1 c1 xs1 e1 g2 A2 n2 c2 xs2 e2 w5 H1.out (by omega) H2.out (by omega) HT.out (Lib.hid N1.out.1) (Lib.hid N2.out.1) Rv1)
  go_wp2_with fail
  refine K.out.mono ?_
  rintro e w6 ⟨rfl, hB⟩
  clear Ja_0 Ja_1 Ja_2 Ja_3 Ja_4 Ja_5
  replace HT : Hid (Tab w6) := HT.out.below hB
  replace H1 : Hid (Lim w6 A1 n1 c1 xs1) := H1.out.below hB
  replace H2 : Hid (Lim w6 A2 n2 c2 xs2) := H2.out.below hB
  replace Ja : Hid (Jb w6 w.heap.size g1 A1 n1 c1 e1 g2 A2 n2 c2 e2) := Ja.out.below hB
  replace HLs : Hid (Lim w6 Asa msa csa ssa) := HLs.out.below hB
  replace HHs : Hid (Lim w6 Asb msb csb ssb) := HHs.out.below hB
  replace HIs : Hid (Ib w6 ws4.heap.size gsa Asa msa csa esa gsb Asb msb csb esb) := HIs.out.below hB
  replace HS := Lib.hid (HS.out.trans (hB.mono HS.out.size))
  clear hB K
  have HIs_0 := HIs.out.x0
  have HIs_1 := HIs.out.x1
  have HIs_2 := HIs.out.x2
  have HIs_3 := HIs.out.x3
  have HIs_4 := HIs.out.x4
  have HIs_5 := HIs.out.x5
  have rXY : Hid (dwD X ≤ dwD Y) := Int.le_trans hX.out.2.2.2.2 (Int.le_trans R12.out hY.out.2.2.2.2)
  have RS : Hid (decide (dw gsa (val ssa) esa ≤ dw gsb (val ssb) esb) = true) := decide_eq_true (by rw [NS.out.1.2.2, NS.out.2.2.2]; exact rXY.out)
  have K : Hid (Calls Tryd.prog 24 #[.agg #[.bool gsa, .slice Asa msa csa, .int .i64 esa, .bool gsb, .slice Asb msb csb, .int .i64 esb], .int .i64 (b : Int)] w6 (STold w6 (fun S T => S = X ∧ T = Y))) := (ivshort_yes b X Y X Y gsa Asa msa csa ssa esa gsb Asb msb csb ssb esb w6 HLs.out (by omega) HHs.out (by omega) HT.out (Lib.hid NS.out.1.1) (Lib.hid NS.out.2.1) RS hb1 hb2 (Lib.hid fun u hl hT => hX.out.2.1 _ _ _ _ _ _ u NS.out.1.1 (by omega) hl hT) (Lib.hid fun u hl hT => hY.out.2.1 _ _ _ _ _ _ u NS.out.2.1 (by omega) hl hT)).mono fun _ _ h => vtold_short h fun S T hq => ⟨by rw [hq.1]; exact HSp.out.1, by rw [hq.2]; exact HSp.out.2⟩
  go_wp2_with fail
  refine K.out.mono ?_
  rintro e ws7 ⟨gta, Ata, mta, cta, sta, eta, gtb, Atb, mtb, ctb, stb, etb, rfl, hmta, hmtb, hla, hlb, hba, hbb, hB, hQ⟩
  clear HIs_0 HIs_1 HIs_2 HIs_3 HIs_4 HIs_5
  replace HT : Hid (Tab ws7) := HT.out.below hB
  replace H1 : Hid (Lim ws7 A1 n1 c1 xs1) := H1.out.below hB
  replace H2 : Hid (Lim ws7 A2 n2 c2 xs2) := H2.out.below hB
  replace Ja : Hid (Jb ws7 w.heap.size g1 A1 n1 c1 e1 g2 A2 n2 c2 e2) := Ja.out.below hB
  replace HLs : Hid (Lim ws7 Asa msa csa ssa) := HLs.out.below hB
  replace HHs : Hid (Lim ws7 Asb msb csb ssb) := HHs.out.below hB
  replace HIs : Hid (Ib ws7 ws4.heap.size gsa Asa msa csa esa gsb Asb msb csb esb) := HIs.out.below hB
  replace HS := Lib.hid (HS.out.trans (hB.mono HS.out.size))
  have HLt : Hid (Lim ws7 Ata mta cta sta) := hla
  have HHt : Hid (Lim ws7 Atb mtb ctb stb) := hlb
  have HQt : Hid (Bare sta ∧ Bare stb ∧ (⟨gta, val sta, eta⟩ : Dy) = X ∧ (⟨gtb, val stb, etb⟩ : Dy) = Y) := ⟨hba, hbb, hQ⟩
  clear hla hlb hba hbb hQ hB K
  have ba := below1 ws7 (.cells #[.bool gta, .slice Ata mta cta, .int .i64 eta, .bool gtb, .slice Atb mtb ctb, .int .i64 etb] 38)
  replace HT : Hid (Tab (ws7.alloc (.cells #[.bool gta, .slice Ata mta cta, .int .i64 eta, .bool gtb, .slice Atb mtb ctb, .int .i64 etb] 38))) := HT.out.below ba
  replace H1 : Hid (Lim (ws7.alloc (.cells #[.bool gta, .slice Ata mta cta, .int .i64 eta, .bool gtb, .slice Atb mtb ctb, .int .i64 etb] 38)) A1 n1 c1 xs1) := H1.out.below ba
  replace H2 : Hid (Lim (ws7.alloc (.cells #[.bool gta, .slice Ata mta cta, .int .i64 eta, .bool gtb, .slice Atb mtb ctb, .int .i64 etb] 38)) A2 n2 c2 xs2) := H2.out.below ba
  replace Ja : Hid (Jb (ws7.alloc (.cells #[.bool gta, .slice Ata mta cta, .int .i64 eta, .bool gtb, .slice Atb mtb ctb, .int .i64 etb] 38)) w.heap.size g1 A1 n1 c1 e1 g2 A2 n2 c2 e2) := Ja.out.below ba
  replace HLs : Hid (Lim (ws7.alloc (.cells #[.bool gta, .slice Ata mta cta, .int .i64 eta, .bool gtb, .slice Atb mtb ctb, .int .i64 etb] 38)) Asa msa csa ssa) := HLs.out.below ba
  replace HHs : Hid (Lim (ws7.alloc (.cells #[.bool gta, .slice Ata mta cta, .int .i64 eta, .bool gtb, .slice Atb mtb ctb, .int .i64 etb] 38)) Asb msb csb ssb) := HHs.out.below ba
  replace HIs : Hid (Ib (ws7.alloc (.cells #[.bool gta, .slice Ata mta cta, .int .i64 eta, .bool gtb, .slice Atb mtb ctb, .int .i64 etb] 38)) ws4.heap.size gsa Asa msa csa esa gsb Asb msb csb esb) := HIs.out.below ba
  replace HLt : Hid (Lim (ws7.alloc (.cells #[.bool gta, .slice Ata mta cta, .int .i64 eta, .bool gtb, .slice Atb mtb ctb, .int .i64 etb] 38)) Ata mta cta sta) := HLt.out.below ba
  replace HHt : Hid (Lim (ws7.alloc (.cells #[.bool gta, .slice Ata mta cta, .int .i64 eta, .bool gtb, .slice Atb mtb ctb, .int .i64 etb] 38)) Atb mtb ctb stb) := HHt.out.below ba
  replace HS := Lib.hid (HS.out.trans (ba.mono HS.out.size))
  clear ba
  have HIt : Hid (Ib (ws7.alloc (.cells #[.bool gta, .slice Ata mta cta, .int .i64 eta, .bool gtb, .slice Atb mtb ctb, .int .i64 etb] 38)) ws7.heap.size gta Ata mta cta eta gtb Atb mtb ctb etb) := Ib.new ws7 gta Ata mta cta eta gtb Atb mtb ctb etb
  have NT : Hid (Nm 3641 gta (val sta) eta X ∧ Nm 3641 gtb (val stb) etb Y) := ⟨nm_eq HQt.out.2.2.1 hX.out.2.2.1, nm_eq HQt.out.2.2.2 hY.out.2.2.1⟩
  clear HQt
  go_wp2_with fail
  generalize hwl : (ws7.alloc (.cells #[.bool gta, .slice Ata mta cta, .int .i64 eta, .bool gtb, .slice Atb mtb ctb, .int .i64 etb] 38)) = wl8 at HT H1 H2 Ja HLs HHs HIs HLt HHt HIt HS ⊢
  clear hwl
  have CA : Hid (∀ vv, Below wl8.heap.size wl8 vv → Calls Tryd.prog 12 #[.agg #[.bool g1, .slice A1 n1 c1, .int .i64 e1, .bool g2, .slice A2 n2 c2, .int .i64 e2]] vv (fun e w' => e = .returned (.agg #[.bool g1, .slice A1 n1 c1, .int .i64 e1, .bool g2, .slice A2 n2 c2, .int .i64 e2]) ∧ Below vv.heap.size vv w')) := fun vv hs => of15_l g1 A1 n1 c1 e1 g2 A2 n2 c2 e2 vv
  have CI : Hid (∀ vv, Below wl8.heap.size wl8 vv → Calls Tryd.prog 18 #[.agg #[.bool g1, .slice A1 n1 c1, .int .i64 e1, .bool g2, .slice A2 n2 c2, .int .i64 e2], .agg #[.bool gsa, .slice Asa msa csa, .int .i64 esa, .bool gsb, .slice Asb msb csb, .int .i64 esb]] vv (fun e w' => e = .returned (.bool true) ∧ Below vv.heap.size vv w')) := fun vv hs => iinside_l true true true true true true d1 d2 X Y g1 A1 n1 c1 xs1 e1 g2 A2 n2 c2 xs2 e2 gsa Asa msa csa ssa esa gsb Asb msb csb ssb esb vv (H1.out.below hs) (by omega) (H2.out.below hs) (by omega) (HLs.out.below hs) (by omega) (HHs.out.below hs) (by omega) (HT.out.below hs) (Lib.hid N1.out.1) (Lib.hid N2.out.1) (Lib.hid NS.out.1.1) (Lib.hid NS.out.2.1) Rv1 RS (decide_eq_true (by rw [NS.out.1.2.2, N1.out.2.2]; exact hX.out.2.2.2.2)) (decide_eq_true (by rw [N1.out.2.2, NS.out.2.2.2]; exact (Int.le_trans R12.out hY.out.2.2.2.2))) (decide_eq_true (by rw [NS.out.1.2.2, N2.out.2.2]; exact (Int.le_trans hX.out.2.2.2.2 R12.out))) (decide_eq_true (by rw [N2.out.2.2, NS.out.2.2.2]; exact hY.out.2.2.2.2))
  have CC1 : Hid (∀ vv, Below wl8.heap.size wl8 vv → Calls Tryd.prog 25 #[.agg #[.bool gsa, .slice Asa msa csa, .int .i64 esa], .agg #[.bool gta, .slice Ata mta cta, .int .i64 eta]] vv (fun e w' => e = .returned (.int .i64 0) ∧ Below vv.heap.size vv w')) := fun vv hs => dcmp_l 0 gsa Asa msa csa ssa esa gta Ata mta cta sta eta vv (HLs.out.below hs) (HLt.out.below hs) (by omega) (by omega) (HT.out.below hs) (cmpI_eq (by rw [NS.out.1.2.2, NT.out.1.2.2]))
  have CC2 : Hid (∀ vv, Below wl8.heap.size wl8 vv → Calls Tryd.prog 25 #[.agg #[.bool gsb, .slice Asb msb csb, .int .i64 esb], .agg #[.bool gtb, .slice Atb mtb ctb, .int .i64 etb]] vv (fun e w' => e = .returned (.int .i64 0) ∧ Below vv.heap.size vv w')) := fun vv hs => dcmp_l 0 gsb Asb msb csb ssb esb gtb Atb mtb ctb stb etb vv (HHs.out.below hs) (HHt.out.below hs) (by omega) (by omega) (HT.out.below hs) (cmpI_eq (by rw [NS.out.2.2.2, NT.out.2.2.2]))
  have z0 : ∀ s : WIn (Below wl8.heap.size wl8), s.u.cell? ⟨w.heap.size, 0, none⟩ = some (.bool g1) := fun s => (Ja.out.below s.h).x0
  have z1 : ∀ s : WIn (Below wl8.heap.size wl8), s.u.cell? ⟨w.heap.size, 1, none⟩ = some (.slice A1 n1 c1) := fun s => (Ja.out.below s.h).x1
  have z2 : ∀ s : WIn (Below wl8.heap.size wl8), s.u.cell? ⟨w.heap.size, 2, none⟩ = some (.int .i64 e1) := fun s => (Ja.out.below s.h).x2
  have z3 : ∀ s : WIn (Below wl8.heap.size wl8), s.u.cell? ⟨w.heap.size, 3, none⟩ = some (.bool g2) := fun s => (Ja.out.below s.h).x3
  have z4 : ∀ s : WIn (Below wl8.heap.size wl8), s.u.cell? ⟨w.heap.size, 4, none⟩ = some (.slice A2 n2 c2) := fun s => (Ja.out.below s.h).x4
  have z5 : ∀ s : WIn (Below wl8.heap.size wl8), s.u.cell? ⟨w.heap.size, 5, none⟩ = some (.int .i64 e2) := fun s => (Ja.out.below s.h).x5
  have z6 : ∀ s : WIn (Below wl8.heap.size wl8), s.u.cell? ⟨ws4.heap.size, 0, none⟩ = some (.bool gsa) := fun s => (HIs.out.below s.h).x0
  have z7 : ∀ s : WIn (Below wl8.heap.size wl8), s.u.cell? ⟨ws4.heap.size, 1, none⟩ = some (.slice Asa msa csa) := fun s => (HIs.out.below s.h).x1
  have z8 : ∀ s : WIn (Below wl8.heap.size wl8), s.u.cell? ⟨ws4.heap.size, 2, none⟩ = some (.int .i64 esa) := fun s => (HIs.out.below s.h).x2
  have z9 : ∀ s : WIn (Below wl8.heap.size wl8), s.u.cell? ⟨ws4.heap.size, 3, none⟩ = some (.bool gsb) := fun s => (HIs.out.below s.h).x3
  have z10 : ∀ s : WIn (Below wl8.heap.size wl8), s.u.cell? ⟨ws4.heap.size, 4, none⟩ = some (.slice Asb msb csb) := fun s => (HIs.out.below s.h).x4
  have z11 : ∀ s : WIn (Below wl8.heap.size wl8), s.u.cell? ⟨ws4.heap.size, 5, none⟩ = some (.int .i64 esb) := fun s => (HIs.out.below s.h).x5
  have z12 : ∀ s : WIn (Below wl8.heap.size wl8), s.u.cell? ⟨ws7.heap.size, 0, none⟩ = some (.bool gta) := fun s => (HIt.out.below s.h).x0
  have z13 : ∀ s : WIn (Below wl8.heap.size wl8), s.u.cell? ⟨ws7.heap.size, 1, none⟩ = some (.slice Ata mta cta) := fun s => (HIt.out.below s.h).x1
  have z14 : ∀ s : WIn (Below wl8.heap.size wl8), s.u.cell? ⟨ws7.heap.size, 2, none⟩ = some (.int .i64 eta) := fun s => (HIt.out.below s.h).x2
  have z15 : ∀ s : WIn (Below wl8.heap.size wl8), s.u.cell? ⟨ws7.heap.size, 3, none⟩ = some (.bool gtb) := fun s => (HIt.out.below s.h).x3
  have z16 : ∀ s : WIn (Below wl8.heap.size wl8), s.u.cell? ⟨ws7.heap.size, 4, none⟩ = some (.slice Atb mtb ctb) := fun s => (HIt.out.below s.h).x4
  have z17 : ∀ s : WIn (Below wl8.heap.size wl8), s.u.cell? ⟨ws7.heap.size, 5, none⟩ = some (.int .i64 etb) := fun s => (HIt.out.below s.h).x5
  haveI ne : Nonempty (WIn (Below wl8.heap.size wl8)) := ⟨⟨_, Below.refl _ _⟩⟩
  go_wp2_with fail
  refine wp_region_quietC (C := Below wl8.heap.size wl8) (by kernel_rfl) (by kernel_rfl) (below_drew _) ?_
  repeat (quiet_step (first | (go_at_call 12; (with_reducible refine (CA.out _ (WIn.h _)).mono ?_); rintro e u1 ⟨rfl, hB⟩; exact ⟨rfl, ⟨⟨u1, win_next _ hB⟩, rfl⟩⟩) | (go_at_call 18; (with_reducible refine (CI.out _ (WIn.h _)).mono ?_); rintro e u1 ⟨rfl, hB⟩; exact ⟨rfl, ⟨⟨u1, win_next _ hB⟩, rfl⟩⟩) | (go_at_call 25; (with_reducible refine (CC1.out _ (WIn.h _)).mono ?_); rintro e u1 ⟨rfl, hB⟩; exact ⟨rfl, ⟨⟨u1, win_next _ hB⟩, rfl⟩⟩) | (go_at_call 25; (with_reducible refine (CC2.out _ (WIn.h _)).mono ?_); rintro e u1 ⟨rfl, hB⟩; exact ⟨rfl, ⟨⟨u1, win_next _ hB⟩, rfl⟩⟩)))
  refine wpQuiet_nil ?_
  rintro uq9 ⟨⟨uz, hB⟩, hz⟩
  have hz9 : uq9 = uz := hz
  clear hz
  subst hz9
  clear z0 z1 z2 z3 z4 z5 z6 z7 z8 z9 z10 z11 z12 z13 z14 z15 z16 z17 ne
  replace HT : Hid (Tab uq9) := HT.out.below hB
  replace H1 : Hid (Lim uq9 A1 n1 c1 xs1) := H1.out.below hB
  replace H2 : Hid (Lim uq9 A2 n2 c2 xs2) := H2.out.below hB
  replace Ja : Hid (Jb uq9 w.heap.size g1 A1 n1 c1 e1 g2 A2 n2 c2 e2) := Ja.out.below hB
  replace HLs : Hid (Lim uq9 Asa msa csa ssa) := HLs.out.below hB
  replace HHs : Hid (Lim uq9 Asb msb csb ssb) := HHs.out.below hB
  replace HIs : Hid (Ib uq9 ws4.heap.size gsa Asa msa csa esa gsb Asb msb csb esb) := HIs.out.below hB
  replace HLt : Hid (Lim uq9 Ata mta cta sta) := HLt.out.below hB
  replace HHt : Hid (Lim uq9 Atb mtb ctb stb) := HHt.out.below hB
  replace HIt : Hid (Ib uq9 ws7.heap.size gta Ata mta cta eta gtb Atb mtb ctb etb) := HIt.out.below hB
  replace HS := Lib.hid (HS.out.trans (hB.mono HS.out.size))
  clear hB CA CC1 CC2 CI
  clear HIt HLt HHt
  clear NT RS rXY
  have hsa9 : msa ≤ 120 := by rw [← HLs.out.len]; exact sp_len NS.out.1.2.1 HLs.out.words BS.out.1 (congrArg Dy.V (show (⟨gsa, val ssa, esa⟩ : Dy) = X from EQS.out.1)) (by decide)
  have hsb9 : msb ≤ 120 := by rw [← HHs.out.len]; exact sp_len NS.out.2.2.1 HHs.out.words BS.out.2 (congrArg Dy.V (show (⟨gsb, val ssb, esb⟩ : Dy) = Y from EQS.out.2)) (by decide)
  have CO1 : Hid (∀ vv, Below uq9.heap.size uq9 vv → Calls Tryd.prog 9 #[.agg #[.bool g1, .slice A1 n1 c1, .int .i64 e1]] vv (NTold vv d1 80)) := fun vv hs => by
    have h := rof_any g1 A1 n1 c1 xs1 e1 vv (H1.out.below hs) (by omega)
    rw [mk_is N1.out.1] at h
    exact h.mono fun _ _ ⟨A9, m9, c9, z9, k1, k2, k3⟩ => ⟨A9, m9, c9, z9, k1, by omega, k3⟩
  have CO2 : Hid (∀ vv, Below uq9.heap.size uq9 vv → Calls Tryd.prog 9 #[.agg #[.bool gsa, .slice Asa msa csa, .int .i64 esa]] vv (NTold vv X 1000)) := fun vv hs => by
    have h := rof_any gsa Asa msa csa ssa esa vv (HLs.out.below hs) (by omega)
    rw [mk_is NS.out.1.1] at h
    exact h.mono fun _ _ ⟨A9, m9, c9, z9, k1, k2, k3⟩ => ⟨A9, m9, c9, z9, k1, by omega, k3⟩
  have CO3 : Hid (∀ vv, Below uq9.heap.size uq9 vv → Calls Tryd.prog 9 #[.agg #[.bool g2, .slice A2 n2 c2, .int .i64 e2]] vv (NTold vv d2 80)) := fun vv hs => by
    have h := rof_any g2 A2 n2 c2 xs2 e2 vv (H2.out.below hs) (by omega)
    rw [mk_is N2.out.1] at h
    exact h.mono fun _ _ ⟨A9, m9, c9, z9, k1, k2, k3⟩ => ⟨A9, m9, c9, z9, k1, by omega, k3⟩
  have CO4 : Hid (∀ vv, Below uq9.heap.size uq9 vv → Calls Tryd.prog 9 #[.agg #[.bool gsb, .slice Asb msb csb, .int .i64 esb]] vv (NTold vv Y 1000)) := fun vv hs => by
    have h := rof_any gsb Asb msb csb ssb esb vv (HHs.out.below hs) (by omega)
    rw [mk_is NS.out.2.1] at h
    exact h.mono fun _ _ ⟨A9, m9, c9, z9, k1, k2, k3⟩ => ⟨A9, m9, c9, z9, k1, by omega, k3⟩
  have CE1 : Hid (∀ vv A n c ds B m k es, ((Dig vv A n c ds ∧ D.Bare ds ∧ n ≤ 80 ∧ D.val ds = d1.V) ∧ (Dig vv B m k es ∧ D.Bare es ∧ m ≤ 1000 ∧ D.val es = X.V)) → Below uq9.heap.size uq9 vv → Calls Tryd.prog 26 #[.agg #[.bool d1.neg, .slice A n c, .int .i64 d1.e], .agg #[.bool X.neg, .slice B m k, .int .i64 X.e], .int .i64 (b : Int)] vv (fun e w' => e = .returned (.bool true) ∧ Below vv.heap.size vv w')) := fun vv A n c ds B m k es h hs => end_of hX.out.2.2.2.1 N1.out.2.1 hX.out.2.2.1 hb2 A n c ds B m k es vv h.1.1 h.2.1 h.1.2.1 h.2.2.1 h.1.2.2.1 h.2.2.2.1 h.1.2.2.2 h.2.2.2.2
  have CE2 : Hid (∀ vv A n c ds B m k es, ((Dig vv A n c ds ∧ D.Bare ds ∧ n ≤ 80 ∧ D.val ds = d2.V) ∧ (Dig vv B m k es ∧ D.Bare es ∧ m ≤ 1000 ∧ D.val es = Y.V)) → Below uq9.heap.size uq9 vv → Calls Tryd.prog 26 #[.agg #[.bool d2.neg, .slice A n c, .int .i64 d2.e], .agg #[.bool Y.neg, .slice B m k, .int .i64 Y.e], .int .i64 (b : Int)] vv (fun e w' => e = .returned (.bool true) ∧ Below vv.heap.size vv w')) := fun vv A n c ds B m k es h hs => end_of hY.out.2.2.2.1 N2.out.2.1 hY.out.2.2.1 hb2 A n c ds B m k es vv h.1.1 h.2.1 h.1.2.1 h.2.2.1 h.1.2.2.1 h.2.2.2.1 h.1.2.2.2 h.2.2.2.2
  have KEEP : Hid (∀ v, Below uq9.heap.size uq9 v → v.cell? ⟨w.heap.size, 0, none⟩ = some (.bool g1) ∧ v.cell? ⟨w.heap.size, 1, none⟩ = some (.slice A1 n1 c1) ∧ v.cell? ⟨w.heap.size, 2, none⟩ = some (.int .i64 e1) ∧ v.cell? ⟨w.heap.size, 3, none⟩ = some (.bool g2) ∧ v.cell? ⟨w.heap.size, 4, none⟩ = some (.slice A2 n2 c2) ∧ v.cell? ⟨w.heap.size, 5, none⟩ = some (.int .i64 e2) ∧ v.cell? ⟨ws4.heap.size, 0, none⟩ = some (.bool gsa) ∧ v.cell? ⟨ws4.heap.size, 1, none⟩ = some (.slice Asa msa csa) ∧ v.cell? ⟨ws4.heap.size, 2, none⟩ = some (.int .i64 esa) ∧ v.cell? ⟨ws4.heap.size, 3, none⟩ = some (.bool gsb) ∧ v.cell? ⟨ws4.heap.size, 4, none⟩ = some (.slice Asb msb csb) ∧ v.cell? ⟨ws4.heap.size, 5, none⟩ = some (.int .i64 esb)) := fun v hv => ⟨(Ja.out.below hv).x0, (Ja.out.below hv).x1, (Ja.out.below hv).x2, (Ja.out.below hv).x3, (Ja.out.below hv).x4, (Ja.out.below hv).x5, (HIs.out.below hv).x0, (HIs.out.below hv).x1, (HIs.out.below hv).x2, (HIs.out.below hv).x3, (HIs.out.below hv).x4, (HIs.out.below hv).x5⟩
  have cur : Hid (Below uq9.heap.size uq9 uq9.drew) := below_drew _
  go_wp2_with fail
  go_region_held3 (fun v => v.cell? ⟨w.heap.size, 0, none⟩ = some (.bool g1) ∧ v.cell? ⟨w.heap.size, 1, none⟩ = some (.slice A1 n1 c1) ∧ v.cell? ⟨w.heap.size, 2, none⟩ = some (.int .i64 e1) ∧ v.cell? ⟨w.heap.size, 3, none⟩ = some (.bool g2) ∧ v.cell? ⟨w.heap.size, 4, none⟩ = some (.slice A2 n2 c2) ∧ v.cell? ⟨w.heap.size, 5, none⟩ = some (.int .i64 e2) ∧ v.cell? ⟨ws4.heap.size, 0, none⟩ = some (.bool gsa) ∧ v.cell? ⟨ws4.heap.size, 1, none⟩ = some (.slice Asa msa csa) ∧ v.cell? ⟨ws4.heap.size, 2, none⟩ = some (.int .i64 esa) ∧ v.cell? ⟨ws4.heap.size, 3, none⟩ = some (.bool gsb) ∧ v.cell? ⟨ws4.heap.size, 4, none⟩ = some (.slice Asb msb csb) ∧ v.cell? ⟨ws4.heap.size, 5, none⟩ = some (.int .i64 esb)) (with_reducible exact KEEP.out _ cur.out)
    (first
      | (go_at_call 9; (with_reducible refine (CO1.out _ cur.out).mono ?_); rintro e u1 ⟨ALA, mLA, cLA, zLA, rfl, hm1, hl1, hb1, hv1, hB1⟩; replace cur := Lib.hid (cur.out.trans (hB1.mono cur.out.size)); have LA : Hid (Dig u1 ALA mLA cLA zLA ∧ D.Bare zLA ∧ mLA ≤ 80 ∧ D.val zLA = d1.V) := ⟨hl1, hb1, hm1, hv1⟩; clear hl1 hb1 hm1 hv1 hB1)
      | (go_at_call 9; (with_reducible refine (CO2.out _ cur.out).mono ?_); rintro e u1 ⟨ALB, mLB, cLB, zLB, rfl, hm1, hl1, hb1, hv1, hB1⟩; replace cur := Lib.hid (cur.out.trans (hB1.mono cur.out.size)); (first | (have la := LA.out; replace LA := Lib.hid (And.intro (la.1.below hB1) la.2); clear la) | skip); have LB : Hid (Dig u1 ALB mLB cLB zLB ∧ D.Bare zLB ∧ mLB ≤ 1000 ∧ D.val zLB = X.V) := ⟨hl1, hb1, hm1, hv1⟩; clear hl1 hb1 hm1 hv1 hB1)
      | (go_at_call 26; (with_reducible refine (CE1.out _ _ _ _ _ _ _ _ _ (And.intro LA.out LB.out) cur.out).mono ?_); rintro e u1 ⟨rfl, hB1⟩; replace cur := Lib.hid (cur.out.trans (hB1.mono cur.out.size)); clear LA LB hB1)
      | (go_at_call 9; (with_reducible refine (CO3.out _ cur.out).mono ?_); rintro e u1 ⟨ALA, mLA, cLA, zLA, rfl, hm1, hl1, hb1, hv1, hB1⟩; replace cur := Lib.hid (cur.out.trans (hB1.mono cur.out.size)); have LA : Hid (Dig u1 ALA mLA cLA zLA ∧ D.Bare zLA ∧ mLA ≤ 80 ∧ D.val zLA = d2.V) := ⟨hl1, hb1, hm1, hv1⟩; clear hl1 hb1 hm1 hv1 hB1)
      | (go_at_call 9; (with_reducible refine (CO4.out _ cur.out).mono ?_); rintro e u1 ⟨ALB, mLB, cLB, zLB, rfl, hm1, hl1, hb1, hv1, hB1⟩; replace cur := Lib.hid (cur.out.trans (hB1.mono cur.out.size)); (first | (have la := LA.out; replace LA := Lib.hid (And.intro (la.1.below hB1) la.2); clear la) | skip); have LB : Hid (Dig u1 ALB mLB cLB zLB ∧ D.Bare zLB ∧ mLB ≤ 1000 ∧ D.val zLB = Y.V) := ⟨hl1, hb1, hm1, hv1⟩; clear hl1 hb1 hm1 hv1 hB1)
      | (go_at_call 26; (with_reducible refine (CE2.out _ _ _ _ _ _ _ _ _ (And.intro LA.out LB.out) cur.out).mono ?_); rintro e u1 ⟨rfl, hB1⟩; replace cur := Lib.hid (cur.out.trans (hB1.mono cur.out.size)); clear LA LB hB1))
  all_goals (
    have Hfin := Lib.hid (HS.out.trans (cur.out.mono HS.out.size))
    clear HS cur KEEP CO1 CO2 CO3 CO4 CE1 CE2 HVA N1 N2 NS BS EQS HSp R12 Rv1 hX hY HT H1 H2 Ja HLs HHs HIs
    go_wp2
    go_ret
    exact ⟨rfl, Hfin.out⟩)
end Go.Proofs.YtnkbdjbcfkflpaaDoor
