/- The walk of the law IvRules (written by law_irules.py). -/
import Derived.Test.YtnkbdjbcfkflpaaDoorIvJ
namespace Go.Proofs.YtnkbdjbcfkflpaaDoor
open Go.RowKit

set_option maxHeartbeats 16000000 in
set_option maxRecDepth 20000 in
theorem ivrules_any (u v : Nat) (g1 : Bool) (A1 : Option Addr) (n1 c1 : Nat) (xs1 : List Nat) (e1 : Int) (g2 : Bool) (A2 : Option Addr) (n2 c2 : Nat) (xs2 : List Nat) (e2 : Int) (g3 : Bool) (A3 : Option Addr) (n3 c3 : Nat) (xs3 : List Nat) (e3 : Int) (g4 : Bool) (A4 : Option Addr) (n4 c4 : Nat) (xs4 : List Nat) (e4 : Int) (w : World) (hu : u ≤ 255) (hv : v ≤ 255) (l1 : Lim w A1 n1 c1 xs1) (l2 : Lim w A2 n2 c2 xs2) (l3 : Lim w A3 n3 c3 xs3) (l4 : Lim w A4 n4 c4 xs4) (hT : Tab w) :
    Calls Tryd.prog 5 #[.agg #[.bool g1, .slice A1 n1 c1, .int .i64 e1, .bool g2, .slice A2 n2 c2, .int .i64 e2], .agg #[.bool g3, .slice A3 n3 c3, .int .i64 e3, .bool g4, .slice A4 n4 c4, .int .i64 e4], .int .u8 (u : Int), .int .u8 (v : Int)] w fun e w' => e = .returned (.bool true) ∧ Below w.heap.size w w' := by
  have HT := Lib.hid hT
  have HS := Lib.hid (Below.refl w.heap.size w)
  have H1 : Hid (Lim w A1 n1 c1 xs1) := l1
  have H2 : Hid (Lim w A2 n2 c2 xs2) := l2
  have H3 : Hid (Lim w A3 n3 c3 xs3) := l3
  have H4 : Hid (Lim w A4 n4 c4 xs4) := l4
  clear l1 l2 l3 l4 hT
  have ba := below1 w (.cells #[.bool g1, .slice A1 n1 c1, .int .i64 e1, .bool g2, .slice A2 n2 c2, .int .i64 e2] 26)
  replace HT : Hid (Tab (w.alloc (.cells #[.bool g1, .slice A1 n1 c1, .int .i64 e1, .bool g2, .slice A2 n2 c2, .int .i64 e2] 26))) := HT.out.below ba
  replace H1 : Hid (Lim (w.alloc (.cells #[.bool g1, .slice A1 n1 c1, .int .i64 e1, .bool g2, .slice A2 n2 c2, .int .i64 e2] 26)) A1 n1 c1 xs1) := H1.out.below ba
  replace H2 : Hid (Lim (w.alloc (.cells #[.bool g1, .slice A1 n1 c1, .int .i64 e1, .bool g2, .slice A2 n2 c2, .int .i64 e2] 26)) A2 n2 c2 xs2) := H2.out.below ba
  replace H3 : Hid (Lim (w.alloc (.cells #[.bool g1, .slice A1 n1 c1, .int .i64 e1, .bool g2, .slice A2 n2 c2, .int .i64 e2] 26)) A3 n3 c3 xs3) := H3.out.below ba
  replace H4 : Hid (Lim (w.alloc (.cells #[.bool g1, .slice A1 n1 c1, .int .i64 e1, .bool g2, .slice A2 n2 c2, .int .i64 e2] 26)) A4 n4 c4 xs4) := H4.out.below ba
  replace HS := Lib.hid (HS.out.trans (ba.mono HS.out.size))
  clear ba
  have Ja : Hid (Jb (w.alloc (.cells #[.bool g1, .slice A1 n1 c1, .int .i64 e1, .bool g2, .slice A2 n2 c2, .int .i64 e2] 26)) w.heap.size g1 A1 n1 c1 e1 g2 A2 n2 c2 e2) := Jb.new w g1 A1 n1 c1 e1 g2 A2 n2 c2 e2
  have ba := below1 (w.alloc (.cells #[.bool g1, .slice A1 n1 c1, .int .i64 e1, .bool g2, .slice A2 n2 c2, .int .i64 e2] 26)) (.cells #[.bool g3, .slice A3 n3 c3, .int .i64 e3, .bool g4, .slice A4 n4 c4, .int .i64 e4] 26)
  replace HT : Hid (Tab ((w.alloc (.cells #[.bool g1, .slice A1 n1 c1, .int .i64 e1, .bool g2, .slice A2 n2 c2, .int .i64 e2] 26)).alloc (.cells #[.bool g3, .slice A3 n3 c3, .int .i64 e3, .bool g4, .slice A4 n4 c4, .int .i64 e4] 26))) := HT.out.below ba
  replace H1 : Hid (Lim ((w.alloc (.cells #[.bool g1, .slice A1 n1 c1, .int .i64 e1, .bool g2, .slice A2 n2 c2, .int .i64 e2] 26)).alloc (.cells #[.bool g3, .slice A3 n3 c3, .int .i64 e3, .bool g4, .slice A4 n4 c4, .int .i64 e4] 26)) A1 n1 c1 xs1) := H1.out.below ba
  replace H2 : Hid (Lim ((w.alloc (.cells #[.bool g1, .slice A1 n1 c1, .int .i64 e1, .bool g2, .slice A2 n2 c2, .int .i64 e2] 26)).alloc (.cells #[.bool g3, .slice A3 n3 c3, .int .i64 e3, .bool g4, .slice A4 n4 c4, .int .i64 e4] 26)) A2 n2 c2 xs2) := H2.out.below ba
  replace H3 : Hid (Lim ((w.alloc (.cells #[.bool g1, .slice A1 n1 c1, .int .i64 e1, .bool g2, .slice A2 n2 c2, .int .i64 e2] 26)).alloc (.cells #[.bool g3, .slice A3 n3 c3, .int .i64 e3, .bool g4, .slice A4 n4 c4, .int .i64 e4] 26)) A3 n3 c3 xs3) := H3.out.below ba
  replace H4 : Hid (Lim ((w.alloc (.cells #[.bool g1, .slice A1 n1 c1, .int .i64 e1, .bool g2, .slice A2 n2 c2, .int .i64 e2] 26)).alloc (.cells #[.bool g3, .slice A3 n3 c3, .int .i64 e3, .bool g4, .slice A4 n4 c4, .int .i64 e4] 26)) A4 n4 c4 xs4) := H4.out.below ba
  replace Ja : Hid (Jb ((w.alloc (.cells #[.bool g1, .slice A1 n1 c1, .int .i64 e1, .bool g2, .slice A2 n2 c2, .int .i64 e2] 26)).alloc (.cells #[.bool g3, .slice A3 n3 c3, .int .i64 e3, .bool g4, .slice A4 n4 c4, .int .i64 e4] 26)) w.heap.size g1 A1 n1 c1 e1 g2 A2 n2 c2 e2) := Ja.out.below ba
  replace HS := Lib.hid (HS.out.trans (ba.mono HS.out.size))
  clear ba
  have Jk : Hid (Jb ((w.alloc (.cells #[.bool g1, .slice A1 n1 c1, .int .i64 e1, .bool g2, .slice A2 n2 c2, .int .i64 e2] 26)).alloc (.cells #[.bool g3, .slice A3 n3 c3, .int .i64 e3, .bool g4, .slice A4 n4 c4, .int .i64 e4] 26)) (w.heap.size + 1) g3 A3 n3 c3 e3 g4 A4 n4 c4 e4) := (by have h := Jb.new (w.alloc (.cells #[.bool g1, .slice A1 n1 c1, .int .i64 e1, .bool g2, .slice A2 n2 c2, .int .i64 e2] 26)) g3 A3 n3 c3 e3 g4 A4 n4 c4 e4; rw [World.size_alloc] at h; exact h)
  have K := Lib.hid (ivalive_any ((w.alloc (.cells #[.bool g1, .slice A1 n1 c1, .int .i64 e1, .bool g2, .slice A2 n2 c2, .int .i64 e2] 26)).alloc (.cells #[.bool g3, .slice A3 n3 c3, .int .i64 e3, .bool g4, .slice A4 n4 c4, .int .i64 e4] 26)) HT.out)
  obtain ⟨va, hva⟩ : ∃ v, decide (Near15 n1 e1 ∧ Near15 n2 e2) = v := ⟨_, rfl⟩
  obtain ⟨vb, hvb⟩ : ∃ v, decide (Near15 n3 e3 ∧ Near15 n4 e4) = v := ⟨_, rfl⟩
  have HVA := Lib.hid hva
  have HVB := Lib.hid hvb
  clear hva hvb
  go_enter Tryd.func5, Tryd.ntmps5
  go_wp2_with fail
  refine K.out.mono ?_
  rintro e w1 ⟨rfl, hB⟩
  replace HT : Hid (Tab w1) := HT.out.below hB
  replace H1 : Hid (Lim w1 A1 n1 c1 xs1) := H1.out.below hB
  replace H2 : Hid (Lim w1 A2 n2 c2 xs2) := H2.out.below hB
  replace H3 : Hid (Lim w1 A3 n3 c3 xs3) := H3.out.below hB
  replace H4 : Hid (Lim w1 A4 n4 c4 xs4) := H4.out.below hB
  replace Ja : Hid (Jb w1 w.heap.size g1 A1 n1 c1 e1 g2 A2 n2 c2 e2) := Ja.out.below hB
  replace Jk : Hid (Jb w1 (w.heap.size + 1) g3 A3 n3 c3 e3 g4 A4 n4 c4 e4) := Jk.out.below hB
  replace HS := Lib.hid (HS.out.trans (hB.mono HS.out.size))
  clear hB K
  have Ja_0 := Ja.out.x0
  have Ja_1 := Ja.out.x1
  have Ja_2 := Ja.out.x2
  have Ja_3 := Ja.out.x3
  have Ja_4 := Ja.out.x4
  have Ja_5 := Ja.out.x5
  have Jk_0 := Jk.out.x0
  have Jk_1 := Jk.out.x1
  have Jk_2 := Jk.out.x2
  have Jk_3 := Jk.out.x3
  have Jk_4 := Jk.out.x4
  have Jk_5 := Jk.out.x5
  have K := Lib.hid (near15_l va g1 A1 n1 c1 e1 g2 A2 n2 c2 e2 w1 HVA)
  go_wp2_with fail
  refine K.out.mono ?_
  rintro e w2 ⟨rfl, hB⟩
  clear Ja_0 Ja_1 Ja_2 Ja_3 Ja_4 Ja_5 Jk_0 Jk_1 Jk_2 Jk_3 Jk_4 Jk_5
  replace HT : Hid (Tab w2) := HT.out.below hB
  replace H1 : Hid (Lim w2 A1 n1 c1 xs1) := H1.out.below hB
  replace H2 : Hid (Lim w2 A2 n2 c2 xs2) := H2.out.below hB
  replace H3 : Hid (Lim w2 A3 n3 c3 xs3) := H3.out.below hB
  replace H4 : Hid (Lim w2 A4 n4 c4 xs4) := H4.out.below hB
  replace Ja : Hid (Jb w2 w.heap.size g1 A1 n1 c1 e1 g2 A2 n2 c2 e2) := Ja.out.below hB
  replace Jk : Hid (Jb w2 (w.heap.size + 1) g3 A3 n3 c3 e3 g4 A4 n4 c4 e4) := Jk.out.below hB
  replace HS := Lib.hid (HS.out.trans (hB.mono HS.out.size))
  clear hB K
  have Ja_0 := Ja.out.x0
  have Ja_1 := Ja.out.x1
  have Ja_2 := Ja.out.x2
  have Ja_3 := Ja.out.x3
  have Ja_4 := Ja.out.x4
  have Ja_5 := Ja.out.x5
  have Jk_0 := Jk.out.x0
  have Jk_1 := Jk.out.x1
  have Jk_2 := Jk.out.x2
  have Jk_3 := Jk.out.x3
  have Jk_4 := Jk.out.x4
  have Jk_5 := Jk.out.x5
  cases va
  · skip
    have Hfin := Lib.hid HS.out
    clear HS HT H1 H2 H3 H4 Ja Jk HVA HVB
    go_wp2
    go_ret
    exact ⟨rfl, Hfin.out⟩
  · skip
    obtain ⟨d1, D1⟩ := nm_raw g1 H1.out (of_decide_eq_true HVA.out).1
    obtain ⟨d2, D2⟩ := nm_raw g2 H2.out (of_decide_eq_true HVA.out).2
    have na := of_decide_eq_true HVA.out
    have n19 := na.1.1
    have n29 := na.2.1
    have NA := Lib.hid na
    have N1 := Lib.hid D1
    have N2 := Lib.hid D2
    clear HVA na D1 D2
    have K := Lib.hid (near15_l vb g3 A3 n3 c3 e3 g4 A4 n4 c4 e4 w2 HVB)
    go_wp2_with fail
    refine K.out.mono ?_
    rintro e w3 ⟨rfl, hB⟩
    clear Ja_0 Ja_1 Ja_2 Ja_3 Ja_4 Ja_5 Jk_0 Jk_1 Jk_2 Jk_3 Jk_4 Jk_5
    replace HT : Hid (Tab w3) := HT.out.below hB
    replace H1 : Hid (Lim w3 A1 n1 c1 xs1) := H1.out.below hB
    replace H2 : Hid (Lim w3 A2 n2 c2 xs2) := H2.out.below hB
    replace H3 : Hid (Lim w3 A3 n3 c3 xs3) := H3.out.below hB
    replace H4 : Hid (Lim w3 A4 n4 c4 xs4) := H4.out.below hB
    replace Ja : Hid (Jb w3 w.heap.size g1 A1 n1 c1 e1 g2 A2 n2 c2 e2) := Ja.out.below hB
    replace Jk : Hid (Jb w3 (w.heap.size + 1) g3 A3 n3 c3 e3 g4 A4 n4 c4 e4) := Jk.out.below hB
    replace HS := Lib.hid (HS.out.trans (hB.mono HS.out.size))
    clear hB K
    have Ja_0 := Ja.out.x0
    have Ja_1 := Ja.out.x1
    have Ja_2 := Ja.out.x2
    have Ja_3 := Ja.out.x3
    have Ja_4 := Ja.out.x4
    have Ja_5 := Ja.out.x5
    have Jk_0 := Jk.out.x0
    have Jk_1 := Jk.out.x1
    have Jk_2 := Jk.out.x2
    have Jk_3 := Jk.out.x3
    have Jk_4 := Jk.out.x4
    have Jk_5 := Jk.out.x5
    cases vb
    · skip
      have Hfin := Lib.hid HS.out
      clear HS HT H1 H2 H3 H4 Ja Jk HVB N1 N2 NA
      go_wp2
      go_ret
      exact ⟨rfl, Hfin.out⟩
    · skip
      obtain ⟨d3, D3⟩ := nm_raw g3 H3.out (of_decide_eq_true HVB.out).1
      obtain ⟨d4, D4⟩ := nm_raw g4 H4.out (of_decide_eq_true HVB.out).2
      have nb := of_decide_eq_true HVB.out
      have n39 := nb.1.1
      have n49 := nb.2.1
      have NB := Lib.hid nb
      have N3 := Lib.hid D3
      have N4 := Lib.hid D4
      clear HVB nb D3 D4
      have K := Lib.hid (of15_l g1 A1 n1 c1 e1 g2 A2 n2 c2 e2 w3)
      go_wp2_with fail
      refine K.out.mono ?_
      rintro e w4 ⟨rfl, hB⟩
      clear Ja_0 Ja_1 Ja_2 Ja_3 Ja_4 Ja_5 Jk_0 Jk_1 Jk_2 Jk_3 Jk_4 Jk_5
      replace HT : Hid (Tab w4) := HT.out.below hB
      replace H1 : Hid (Lim w4 A1 n1 c1 xs1) := H1.out.below hB
      replace H2 : Hid (Lim w4 A2 n2 c2 xs2) := H2.out.below hB
      replace H3 : Hid (Lim w4 A3 n3 c3 xs3) := H3.out.below hB
      replace H4 : Hid (Lim w4 A4 n4 c4 xs4) := H4.out.below hB
      replace Ja : Hid (Jb w4 w.heap.size g1 A1 n1 c1 e1 g2 A2 n2 c2 e2) := Ja.out.below hB
      replace Jk : Hid (Jb w4 (w.heap.size + 1) g3 A3 n3 c3 e3 g4 A4 n4 c4 e4) := Jk.out.below hB
      replace HS := Lib.hid (HS.out.trans (hB.mono HS.out.size))
      clear hB K
      have Ja_0 := Ja.out.x0
      have Ja_1 := Ja.out.x1
      have Ja_2 := Ja.out.x2
      have Ja_3 := Ja.out.x3
      have Ja_4 := Ja.out.x4
      have Ja_5 := Ja.out.x5
      have Jk_0 := Jk.out.x0
      have Jk_1 := Jk.out.x1
      have Jk_2 := Jk.out.x2
      have Jk_3 := Jk.out.x3
      have Jk_4 := Jk.out.x4
      have Jk_5 := Jk.out.x5
      obtain ⟨v1, hv1⟩ : ∃ v, decide ((dw g1 (val xs1) e1) ≤ (dw g2 (val xs2) e2)) = v := ⟨_, rfl⟩
      have Rv1 := Lib.hid hv1
      clear hv1
      have K := Lib.hid (iright_l v1 d1 d2 g1 A1 n1 c1 xs1 e1 g2 A2 n2 c2 xs2 e2 w4 H1.out (by omega) H2.out (by omega) HT.out (Lib.hid N1.out.1) (Lib.hid N2.out.1) Rv1)
      go_wp2_with fail
      refine K.out.mono ?_
      rintro e w5 ⟨rfl, hB⟩
      clear Ja_0 Ja_1 Ja_2 Ja_3 Ja_4 Ja_5 Jk_0 Jk_1 Jk_2 Jk_3 Jk_4 Jk_5
      replace HT : Hid (Tab w5) := HT.out.below hB
      replace H1 : Hid (Lim w5 A1 n1 c1 xs1) := H1.out.below hB
      replace H2 : Hid (Lim w5 A2 n2 c2 xs2) := H2.out.below hB
      replace H3 : Hid (Lim w5 A3 n3 c3 xs3) := H3.out.below hB
      replace H4 : Hid (Lim w5 A4 n4 c4 xs4) := H4.out.below hB
      replace Ja : Hid (Jb w5 w.heap.size g1 A1 n1 c1 e1 g2 A2 n2 c2 e2) := Ja.out.below hB
      replace Jk : Hid (Jb w5 (w.heap.size + 1) g3 A3 n3 c3 e3 g4 A4 n4 c4 e4) := Jk.out.below hB
      replace HS := Lib.hid (HS.out.trans (hB.mono HS.out.size))
      clear hB K
      have Ja_0 := Ja.out.x0
      have Ja_1 := Ja.out.x1
      have Ja_2 := Ja.out.x2
      have Ja_3 := Ja.out.x3
      have Ja_4 := Ja.out.x4
      have Ja_5 := Ja.out.x5
      have Jk_0 := Jk.out.x0
      have Jk_1 := Jk.out.x1
      have Jk_2 := Jk.out.x2
      have Jk_3 := Jk.out.x3
      have Jk_4 := Jk.out.x4
      have Jk_5 := Jk.out.x5
      cases v1
      · skip
        have Hfin := Lib.hid HS.out
        clear HS HT H1 H2 H3 H4 Ja Jk N1 N2 N3 N4 NA NB Rv1
        go_wp2
        go_ret
        exact ⟨rfl, Hfin.out⟩
      · skip
        have K := Lib.hid (of15_l g3 A3 n3 c3 e3 g4 A4 n4 c4 e4 w5)
        go_wp2_with fail
        refine K.out.mono ?_
        rintro e w6 ⟨rfl, hB⟩
        clear Ja_0 Ja_1 Ja_2 Ja_3 Ja_4 Ja_5 Jk_0 Jk_1 Jk_2 Jk_3 Jk_4 Jk_5
        replace HT : Hid (Tab w6) := HT.out.below hB
        replace H1 : Hid (Lim w6 A1 n1 c1 xs1) := H1.out.below hB
        replace H2 : Hid (Lim w6 A2 n2 c2 xs2) := H2.out.below hB
        replace H3 : Hid (Lim w6 A3 n3 c3 xs3) := H3.out.below hB
        replace H4 : Hid (Lim w6 A4 n4 c4 xs4) := H4.out.below hB
        replace Ja : Hid (Jb w6 w.heap.size g1 A1 n1 c1 e1 g2 A2 n2 c2 e2) := Ja.out.below hB
        replace Jk : Hid (Jb w6 (w.heap.size + 1) g3 A3 n3 c3 e3 g4 A4 n4 c4 e4) := Jk.out.below hB
        replace HS := Lib.hid (HS.out.trans (hB.mono HS.out.size))
        clear hB K
        have Ja_0 := Ja.out.x0
        have Ja_1 := Ja.out.x1
        have Ja_2 := Ja.out.x2
        have Ja_3 := Ja.out.x3
        have Ja_4 := Ja.out.x4
        have Ja_5 := Ja.out.x5
        have Jk_0 := Jk.out.x0
        have Jk_1 := Jk.out.x1
        have Jk_2 := Jk.out.x2
        have Jk_3 := Jk.out.x3
        have Jk_4 := Jk.out.x4
        have Jk_5 := Jk.out.x5
        obtain ⟨v2, hv2⟩ : ∃ v, decide ((dw g3 (val xs3) e3) ≤ (dw g4 (val xs4) e4)) = v := ⟨_, rfl⟩
        have Rv2 := Lib.hid hv2
        clear hv2
        have K := Lib.hid (iright_l v2 d3 d4 g3 A3 n3 c3 xs3 e3 g4 A4 n4 c4 xs4 e4 w6 H3.out (by omega) H4.out (by omega) HT.out (Lib.hid N3.out.1) (Lib.hid N4.out.1) Rv2)
        go_wp2_with fail
        refine K.out.mono ?_
        rintro e w7 ⟨rfl, hB⟩
        clear Ja_0 Ja_1 Ja_2 Ja_3 Ja_4 Ja_5 Jk_0 Jk_1 Jk_2 Jk_3 Jk_4 Jk_5
        replace HT : Hid (Tab w7) := HT.out.below hB
        replace H1 : Hid (Lim w7 A1 n1 c1 xs1) := H1.out.below hB
        replace H2 : Hid (Lim w7 A2 n2 c2 xs2) := H2.out.below hB
        replace H3 : Hid (Lim w7 A3 n3 c3 xs3) := H3.out.below hB
        replace H4 : Hid (Lim w7 A4 n4 c4 xs4) := H4.out.below hB
        replace Ja : Hid (Jb w7 w.heap.size g1 A1 n1 c1 e1 g2 A2 n2 c2 e2) := Ja.out.below hB
        replace Jk : Hid (Jb w7 (w.heap.size + 1) g3 A3 n3 c3 e3 g4 A4 n4 c4 e4) := Jk.out.below hB
        replace HS := Lib.hid (HS.out.trans (hB.mono HS.out.size))
        clear hB K
        have Ja_0 := Ja.out.x0
        have Ja_1 := Ja.out.x1
        have Ja_2 := Ja.out.x2
        have Ja_3 := Ja.out.x3
        have Ja_4 := Ja.out.x4
        have Ja_5 := Ja.out.x5
        have Jk_0 := Jk.out.x0
        have Jk_1 := Jk.out.x1
        have Jk_2 := Jk.out.x2
        have Jk_3 := Jk.out.x3
        have Jk_4 := Jk.out.x4
        have Jk_5 := Jk.out.x5
        cases v2
        · skip
          have Hfin := Lib.hid HS.out
          clear HS HT H1 H2 H3 H4 Ja Jk N1 N2 N3 N4 NA NB Rv1 Rv2
          go_wp2
          go_ret
          exact ⟨rfl, Hfin.out⟩
        · skip
          obtain ⟨ma, sa, dua, pa, x, Ia, wx⟩ := inner_ex (g1 := g1) (g2 := g2) (u := u) (by have := H1.out.blen_le; omega) NA.out.1.2.1 NA.out.1.2.2 (by have := H2.out.blen_le; omega) NA.out.2.2.1 NA.out.2.2.2 N1.out.1 N2.out.1 hu
          obtain ⟨mb, sb, dub, pb, y, Ik, wy⟩ := inner_ex (g1 := g3) (g2 := g4) (u := v) (by have := H3.out.blen_le; omega) NB.out.1.2.1 NB.out.1.2.2 (by have := H4.out.blen_le; omega) NB.out.2.2.1 NB.out.2.2.2 N3.out.1 N4.out.1 hv
          have IA := Lib.hid Ia
          have IK := Lib.hid Ik
          have SPX : Hid (Sp 4200 x ∧ Sp 4200 y) := ⟨Ia.2.2.2.2.2.2.2.2, Ik.2.2.2.2.2.2.2.2⟩
          have WX : Hid (dwD d1 ≤ dwD x ∧ dwD x ≤ dwD d2) := by
            rw [N1.out.2.2, N2.out.2.2] at wx
            have r := of_decide_eq_true Rv1.out
            rw [N1.out.2.2, N2.out.2.2] at r
            exact inner_in r hu wx
          have WY : Hid (dwD d3 ≤ dwD y ∧ dwD y ≤ dwD d4) := by
            rw [N3.out.2.2, N4.out.2.2] at wy
            have r := of_decide_eq_true Rv2.out
            rw [N3.out.2.2, N4.out.2.2] at r
            exact inner_in r hv wy
          clear Ia Ik wx wy
          clear Ja_0 Ja_1 Ja_2 Ja_3 Ja_4 Ja_5 Jk_0 Jk_1 Jk_2 Jk_3 Jk_4 Jk_5
          have CA : Hid (∀ s, Below w7.heap.size w7 s → Calls Tryd.prog 12 #[.agg #[.bool g1, .slice A1 n1 c1, .int .i64 e1, .bool g2, .slice A2 n2 c2, .int .i64 e2]] s (fun e w' => e = .returned (.agg #[.bool g1, .slice A1 n1 c1, .int .i64 e1, .bool g2, .slice A2 n2 c2, .int .i64 e2]) ∧ Below s.heap.size s w')) := fun s _ => of15_l g1 A1 n1 c1 e1 g2 A2 n2 c2 e2 s
          have CB : Hid (∀ s, Below w7.heap.size w7 s → Calls Tryd.prog 12 #[.agg #[.bool g3, .slice A3 n3 c3, .int .i64 e3, .bool g4, .slice A4 n4 c4, .int .i64 e4]] s (fun e w' => e = .returned (.agg #[.bool g3, .slice A3 n3 c3, .int .i64 e3, .bool g4, .slice A4 n4 c4, .int .i64 e4]) ∧ Below s.heap.size s w')) := fun s _ => of15_l g3 A3 n3 c3 e3 g4 A4 n4 c4 e4 s
          have CX : Hid (∀ s, Below w7.heap.size w7 s → Calls Tryd.prog 27 #[.agg #[.bool g1, .slice A1 n1 c1, .int .i64 e1, .bool g2, .slice A2 n2 c2, .int .i64 e2], .int .u8 (u : Int)] s (Tells1 s x.neg x.V 140 x.e)) := fun s hs => inner_l u ma sa dua pa x d1 d2 g1 A1 n1 c1 xs1 e1 g2 A2 n2 c2 xs2 e2 s (H1.out.below hs) (by omega) (H2.out.below hs) (by omega) (HT.out.below hs) (Lib.hid N1.out.1) (Lib.hid N2.out.1) Rv1 hu IA
          have CY : Hid (∀ s, Below w7.heap.size w7 s → Calls Tryd.prog 27 #[.agg #[.bool g3, .slice A3 n3 c3, .int .i64 e3, .bool g4, .slice A4 n4 c4, .int .i64 e4], .int .u8 (v : Int)] s (Tells1 s y.neg y.V 140 y.e)) := fun s hs => inner_l v mb sb dub pb y d3 d4 g3 A3 n3 c3 xs3 e3 g4 A4 n4 c4 xs4 e4 s (H3.out.below hs) (by omega) (H4.out.below hs) (by omega) (HT.out.below hs) (Lib.hid N3.out.1) (Lib.hid N4.out.1) Rv2 hv IK
          have KEEP : Hid (∀ v, Below w7.heap.size w7 v → v.cell? ⟨w.heap.size, 0, none⟩ = some (.bool g1) ∧ v.cell? ⟨w.heap.size, 1, none⟩ = some (.slice A1 n1 c1) ∧ v.cell? ⟨w.heap.size, 2, none⟩ = some (.int .i64 e1) ∧ v.cell? ⟨w.heap.size, 3, none⟩ = some (.bool g2) ∧ v.cell? ⟨w.heap.size, 4, none⟩ = some (.slice A2 n2 c2) ∧ v.cell? ⟨w.heap.size, 5, none⟩ = some (.int .i64 e2) ∧ v.cell? ⟨(w.heap.size + 1), 0, none⟩ = some (.bool g3) ∧ v.cell? ⟨(w.heap.size + 1), 1, none⟩ = some (.slice A3 n3 c3) ∧ v.cell? ⟨(w.heap.size + 1), 2, none⟩ = some (.int .i64 e3) ∧ v.cell? ⟨(w.heap.size + 1), 3, none⟩ = some (.bool g4) ∧ v.cell? ⟨(w.heap.size + 1), 4, none⟩ = some (.slice A4 n4 c4) ∧ v.cell? ⟨(w.heap.size + 1), 5, none⟩ = some (.int .i64 e4)) := fun v hv => ⟨(Ja.out.below hv).x0, (Ja.out.below hv).x1, (Ja.out.below hv).x2, (Ja.out.below hv).x3, (Ja.out.below hv).x4, (Ja.out.below hv).x5, (Jk.out.below hv).x0, (Jk.out.below hv).x1, (Jk.out.below hv).x2, (Jk.out.below hv).x3, (Jk.out.below hv).x4, (Jk.out.below hv).x5⟩
          have cur := Lib.hid ((HoldU.start w7).below (below_drew _))
          have F1 := Lib.hid ((HoldU.start w7).one.below (below_drew _))
          have F2 := Lib.hid ((HoldU.start w7).two.below (below_drew _))
          go_wp2_with fail
          go_cut [9, 10] from 43 (fun s17 s18 wx => ∃ (p r m1 c1 m2 c2 : Nat) (A1 A2 : Option Addr) (es1 es2 : List Nat), s17 = .pointer (some ⟨p, 0, none⟩) ∧ s18 = .pointer (some ⟨r, 0, none⟩) ∧ m1 ≤ 140 ∧ m2 ≤ 140 ∧ Hid (RelU w7 p x.neg A1 m1 c1 x.e x.V es1 r y.neg A2 m2 c2 y.e y.V es2 wx))
          case first =>
            as_aux_lemma =>
            go_region_held3 (fun v => v.cell? ⟨w.heap.size, 0, none⟩ = some (.bool g1) ∧ v.cell? ⟨w.heap.size, 1, none⟩ = some (.slice A1 n1 c1) ∧ v.cell? ⟨w.heap.size, 2, none⟩ = some (.int .i64 e1) ∧ v.cell? ⟨w.heap.size, 3, none⟩ = some (.bool g2) ∧ v.cell? ⟨w.heap.size, 4, none⟩ = some (.slice A2 n2 c2) ∧ v.cell? ⟨w.heap.size, 5, none⟩ = some (.int .i64 e2) ∧ v.cell? ⟨(w.heap.size + 1), 0, none⟩ = some (.bool g3) ∧ v.cell? ⟨(w.heap.size + 1), 1, none⟩ = some (.slice A3 n3 c3) ∧ v.cell? ⟨(w.heap.size + 1), 2, none⟩ = some (.int .i64 e3) ∧ v.cell? ⟨(w.heap.size + 1), 3, none⟩ = some (.bool g4) ∧ v.cell? ⟨(w.heap.size + 1), 4, none⟩ = some (.slice A4 n4 c4) ∧ v.cell? ⟨(w.heap.size + 1), 5, none⟩ = some (.int .i64 e4)) (first | (with_reducible exact KEEP.out _ cur.out.old) | (with_reducible exact KEEP.out _ F1.out.old) | (with_reducible exact KEEP.out _ F2.out.old) | (with_reducible exact KEEP.out _ (cur.out.a1 _)) | (with_reducible exact KEEP.out _ (cur.out.a2 _ _)) | (with_reducible exact KEEP.out _ (cur.out.at1 _ _ _ _ _)) | (with_reducible exact KEEP.out _ (cur.out.at2 _ _ _ _ _)) | (with_reducible exact KEEP.out _ (cur.out.at1a _ _ _ _ _ _)) | (with_reducible exact KEEP.out _ (cur.out.at12 _ _ _ _ _ _ _ _ _ _)) | (with_reducible exact KEEP.out _ (cur.out.at21 _ _ _ _ _ _ _ _ _ _)))
              (first
                | (go_at_call 12; (with_reducible refine (CA.out _ (by first | (with_reducible exact cur.out.old) | (with_reducible exact F1.out.old) | (with_reducible exact F2.out.old) | (with_reducible exact cur.out.a1 _) | (with_reducible exact cur.out.a2 _ _))).mono ?_); rintro e u1 ⟨rfl, hB1⟩; (first | (with_reducible (replace L1 := Lib.hid (L1.out.below hB1))) | (with_reducible (replace L1 := Lib.hid ((L1.out.below (below1 _ (.cells #[.bool false, .slice none 0 0, .int .i64 0] 36))).below hB1))) | (with_reducible (replace L1 := Lib.hid ((L1.out.below (below_2u _ (.cells #[.bool false, .slice none 0 0, .int .i64 0] 36) (.cells #[.bool false, .slice none 0 0, .int .i64 0] 36))).below hB1))) | skip); (first | (with_reducible (replace L2 := Lib.hid (L2.out.below hB1))) | (with_reducible (replace L2 := Lib.hid ((L2.out.below (below1 _ (.cells #[.bool false, .slice none 0 0, .int .i64 0] 36))).below hB1))) | (with_reducible (replace L2 := Lib.hid ((L2.out.below (below_2u _ (.cells #[.bool false, .slice none 0 0, .int .i64 0] 36) (.cells #[.bool false, .slice none 0 0, .int .i64 0] 36))).below hB1))) | skip); (first | (with_reducible (replace cur := Lib.hid (cur.out.below hB1))) | (with_reducible (replace cur := Lib.hid (cur.out.one.below hB1))) | (with_reducible (replace cur := Lib.hid (cur.out.two.below hB1))) | (with_reducible (replace cur := Lib.hid (F1.out.below hB1))) | (with_reducible (replace cur := Lib.hid (F2.out.below hB1)))); clear hB1; (first | (have kx := cur.out.first; have x0 := kx.c0; have x1 := kx.c1; have x2 := kx.c2; have xf := kx.fz; have xl := kx.lt; clear kx) | skip); (first | (have ky := cur.out.second; have y0 := ky.1.c0; have y1 := ky.1.c1; have y2 := ky.1.c2; have yf := ky.1.fz; have yl := ky.1.lt; have yx := ky.2; clear ky) | skip))
                | (go_at_call 12; (with_reducible refine (CB.out _ (by first | (with_reducible exact cur.out.old) | (with_reducible exact F1.out.old) | (with_reducible exact F2.out.old) | (with_reducible exact cur.out.a1 _) | (with_reducible exact cur.out.a2 _ _))).mono ?_); rintro e u1 ⟨rfl, hB1⟩; (first | (with_reducible (replace L1 := Lib.hid (L1.out.below hB1))) | (with_reducible (replace L1 := Lib.hid ((L1.out.below (below1 _ (.cells #[.bool false, .slice none 0 0, .int .i64 0] 36))).below hB1))) | (with_reducible (replace L1 := Lib.hid ((L1.out.below (below_2u _ (.cells #[.bool false, .slice none 0 0, .int .i64 0] 36) (.cells #[.bool false, .slice none 0 0, .int .i64 0] 36))).below hB1))) | skip); (first | (with_reducible (replace L2 := Lib.hid (L2.out.below hB1))) | (with_reducible (replace L2 := Lib.hid ((L2.out.below (below1 _ (.cells #[.bool false, .slice none 0 0, .int .i64 0] 36))).below hB1))) | (with_reducible (replace L2 := Lib.hid ((L2.out.below (below_2u _ (.cells #[.bool false, .slice none 0 0, .int .i64 0] 36) (.cells #[.bool false, .slice none 0 0, .int .i64 0] 36))).below hB1))) | skip); (first | (with_reducible (replace cur := Lib.hid (cur.out.below hB1))) | (with_reducible (replace cur := Lib.hid (cur.out.one.below hB1))) | (with_reducible (replace cur := Lib.hid (cur.out.two.below hB1))) | (with_reducible (replace cur := Lib.hid (F1.out.below hB1))) | (with_reducible (replace cur := Lib.hid (F2.out.below hB1)))); clear hB1; (first | (have kx := cur.out.first; have x0 := kx.c0; have x1 := kx.c1; have x2 := kx.c2; have xf := kx.fz; have xl := kx.lt; clear kx) | skip); (first | (have ky := cur.out.second; have y0 := ky.1.c0; have y1 := ky.1.c1; have y2 := ky.1.c2; have yf := ky.1.fz; have yl := ky.1.lt; have yx := ky.2; clear ky) | skip))
                | (go_at_call 27; (with_reducible refine (CX.out _ (by first | (with_reducible exact cur.out.old) | (with_reducible exact F1.out.old) | (with_reducible exact F2.out.old) | (with_reducible exact cur.out.a1 _) | (with_reducible exact cur.out.a2 _ _))).mono ?_); rintro e u1 ⟨A1', m1, c1', es1, rfl, hm1, hl1, hb1, hv1, hB1⟩; (first | (with_reducible (replace L2 := Lib.hid (L2.out.below hB1))) | (with_reducible (replace L2 := Lib.hid ((L2.out.below (below1 _ (.cells #[.bool false, .slice none 0 0, .int .i64 0] 36))).below hB1))) | (with_reducible (replace L2 := Lib.hid ((L2.out.below (below_2u _ (.cells #[.bool false, .slice none 0 0, .int .i64 0] 36) (.cells #[.bool false, .slice none 0 0, .int .i64 0] 36))).below hB1))) | skip); (first | (with_reducible (replace cur := Lib.hid (cur.out.below hB1))) | (with_reducible (replace cur := Lib.hid (cur.out.one.below hB1))) | (with_reducible (replace cur := Lib.hid (cur.out.two.below hB1))) | (with_reducible (replace cur := Lib.hid (F1.out.below hB1))) | (with_reducible (replace cur := Lib.hid (F2.out.below hB1)))); have L1 : Hid (Mq u1 x.V A1' m1 c1' es1) := ⟨hl1, hb1, hv1⟩; clear hl1 hb1 hv1 hB1; (first | (have kx := cur.out.first; have x0 := kx.c0; have x1 := kx.c1; have x2 := kx.c2; have xf := kx.fz; have xl := kx.lt; clear kx) | skip); (first | (have ky := cur.out.second; have y0 := ky.1.c0; have y1 := ky.1.c1; have y2 := ky.1.c2; have yf := ky.1.fz; have yl := ky.1.lt; have yx := ky.2; clear ky) | skip))
                | (go_at_call 27; (with_reducible refine (CY.out _ (by first | (with_reducible exact cur.out.old) | (with_reducible exact F1.out.old) | (with_reducible exact F2.out.old) | (with_reducible exact cur.out.a1 _) | (with_reducible exact cur.out.a2 _ _))).mono ?_); rintro e u2 ⟨A2', m2, c2', es2, rfl, hm2, hl2, hb2, hv2, hB2⟩; (first | (with_reducible (replace L1 := Lib.hid (L1.out.below hB2))) | (with_reducible (replace L1 := Lib.hid ((L1.out.below (below1 _ (.cells #[.bool false, .slice none 0 0, .int .i64 0] 36))).below hB2))) | (with_reducible (replace L1 := Lib.hid ((L1.out.below (below_2u _ (.cells #[.bool false, .slice none 0 0, .int .i64 0] 36) (.cells #[.bool false, .slice none 0 0, .int .i64 0] 36))).below hB2))) | skip); (first | (with_reducible (replace cur := Lib.hid (cur.out.below hB2))) | (with_reducible (replace cur := Lib.hid (cur.out.one.below hB2))) | (with_reducible (replace cur := Lib.hid (cur.out.two.below hB2))) | (with_reducible (replace cur := Lib.hid (F1.out.below hB2))) | (with_reducible (replace cur := Lib.hid (F2.out.below hB2)))); have L2 : Hid (Mq u2 y.V A2' m2 c2' es2) := ⟨hl2, hb2, hv2⟩; clear hl2 hb2 hv2 hB2; (first | (have kx := cur.out.first; have x0 := kx.c0; have x1 := kx.c1; have x2 := kx.c2; have xf := kx.fz; have xl := kx.lt; clear kx) | skip); (first | (have ky := cur.out.second; have y0 := ky.1.c0; have y1 := ky.1.c1; have y2 := ky.1.c2; have yf := ky.1.fz; have yl := ky.1.lt; have yx := ky.2; clear ky) | skip)))
            all_goals (go_wp2_with fail)
            all_goals go_meet
            all_goals (refine ⟨_, _, m1, c1', m2, c2', A1', A2', es1, es2, rfl, rfl, by omega, by omega, ?_⟩)
            all_goals (first
              | (have t := (RelU.new2 (g1 := x.neg) (E1 := x.e) (g2 := y.neg) (E2 := y.e) cur.out L1.out L2.out); (with_reducible exact Lib.hid t))
              | (have t := (RelU.new2 (g1 := y.neg) (E1 := y.e) (g2 := x.neg) (E2 := x.e) cur.out L2.out L1.out).swap; (with_reducible exact Lib.hid t))
              | (have t := (RelU.new1 (g1 := x.neg) (E1 := x.e) (g2 := y.neg) (E2 := y.e) cur.out L1.out L2.out); (with_reducible exact Lib.hid t))
              | (have t := (RelU.new1 (g1 := y.neg) (E1 := y.e) (g2 := x.neg) (E2 := x.e) cur.out L2.out L1.out).swap; (with_reducible exact Lib.hid t))
              | (have t := (RelU.new0 (g1 := x.neg) (E1 := x.e) (g2 := y.neg) (E2 := y.e) cur.out L1.out L2.out).1; (with_reducible exact Lib.hid t))
              | (have t := (RelU.new0 (g1 := y.neg) (E1 := y.e) (g2 := x.neg) (E2 := x.e) cur.out L2.out L1.out).1.swap; (with_reducible exact Lib.hid t))
              | (have t := (RelU.new0 (g1 := x.neg) (E1 := x.e) (g2 := y.neg) (E2 := y.e) cur.out L1.out L2.out).2; (with_reducible exact Lib.hid t))
              | (have t := (RelU.new0 (g1 := y.neg) (E1 := y.e) (g2 := x.neg) (E2 := x.e) cur.out L2.out L1.out).2.swap; (with_reducible exact Lib.hid t)))
          case rest =>
            clear cur F1 F2 KEEP CA CB CX CY IA IK
            obtain ⟨ur, rfl⟩ : ∃ u, u = wc := ⟨_, rfl⟩
            obtain ⟨px, py, mx, cx, my, cy, Ax, Ay, sx, sy, rfl, rfl, hmx, hmy, HRx⟩ := hcut
            have hB := HRx.out.1
            replace HT : Hid (Tab ur) := HT.out.below hB
            replace H1 : Hid (Lim ur A1 n1 c1 xs1) := H1.out.below hB
            replace H2 : Hid (Lim ur A2 n2 c2 xs2) := H2.out.below hB
            replace H3 : Hid (Lim ur A3 n3 c3 xs3) := H3.out.below hB
            replace H4 : Hid (Lim ur A4 n4 c4 xs4) := H4.out.below hB
            replace Ja : Hid (Jb ur w.heap.size g1 A1 n1 c1 e1 g2 A2 n2 c2 e2) := Ja.out.below hB
            replace Jk : Hid (Jb ur (w.heap.size + 1) g3 A3 n3 c3 e3 g4 A4 n4 c4 e4) := Jk.out.below hB
            replace HS := Lib.hid (HS.out.trans (hB.mono HS.out.size))
            have HX : Hid (Bd ur px 36 x.neg Ax mx cx x.e) := HRx.out.2.1
            have HXl : Hid (Lim ur Ax mx cx sx) := HRx.out.2.2.1.1
            have HY : Hid (Bd ur py 36 y.neg Ay my cy y.e) := HRx.out.2.2.2.1
            have HYl : Hid (Lim ur Ay my cy sy) := HRx.out.2.2.2.2.1
            have HXY : Hid (val sx = x.V ∧ val sy = y.V) := ⟨HRx.out.2.2.1.2.2, HRx.out.2.2.2.2.2.2⟩
            clear HRx hB
            have NX : Hid (Nm 4200 x.neg (val sx) x.e x) := nm_val HXY.out.1 SPX.out.1
            have NY : Hid (Nm 4200 y.neg (val sy) y.e y) := nm_val HXY.out.2 SPX.out.2
            clear HXY SPX
            have CA : Hid (∀ s, Below ur.heap.size ur s → Calls Tryd.prog 12 #[.agg #[.bool g1, .slice A1 n1 c1, .int .i64 e1, .bool g2, .slice A2 n2 c2, .int .i64 e2]] s (fun e w' => e = .returned (.agg #[.bool g1, .slice A1 n1 c1, .int .i64 e1, .bool g2, .slice A2 n2 c2, .int .i64 e2]) ∧ Below s.heap.size s w')) := fun s _ => of15_l g1 A1 n1 c1 e1 g2 A2 n2 c2 e2 s
            have CB : Hid (∀ s, Below ur.heap.size ur s → Calls Tryd.prog 12 #[.agg #[.bool g3, .slice A3 n3 c3, .int .i64 e3, .bool g4, .slice A4 n4 c4, .int .i64 e4]] s (fun e w' => e = .returned (.agg #[.bool g3, .slice A3 n3 c3, .int .i64 e3, .bool g4, .slice A4 n4 c4, .int .i64 e4]) ∧ Below s.heap.size s w')) := fun s _ => of15_l g3 A3 n3 c3 e3 g4 A4 n4 c4 e4 s
            have CH1 : Hid (∀ s, Below ur.heap.size ur s → Calls Tryd.prog 17 #[.agg #[.bool g1, .slice A1 n1 c1, .int .i64 e1, .bool g2, .slice A2 n2 c2, .int .i64 e2], .agg #[.bool x.neg, .slice Ax mx cx, .int .i64 x.e]] s (fun e w' => e = .returned (.bool true) ∧ Below s.heap.size s w')) := fun s hs => ihas_l true true true d1 d2 x g1 A1 n1 c1 xs1 e1 g2 A2 n2 c2 xs2 e2 x.neg Ax mx cx sx x.e s (H1.out.below hs) (by omega) (H2.out.below hs) (by omega) (HXl.out.below hs) (by omega) (HT.out.below hs) (Lib.hid N1.out.1) (Lib.hid N2.out.1) (Lib.hid NX.out.1) Rv1 (decide_eq_true (by rw [N1.out.2.2, NX.out.2.2]; exact WX.out.1)) (decide_eq_true (by rw [NX.out.2.2, N2.out.2.2]; exact WX.out.2))
            have CH2 : Hid (∀ s, Below ur.heap.size ur s → Calls Tryd.prog 17 #[.agg #[.bool g3, .slice A3 n3 c3, .int .i64 e3, .bool g4, .slice A4 n4 c4, .int .i64 e4], .agg #[.bool y.neg, .slice Ay my cy, .int .i64 y.e]] s (fun e w' => e = .returned (.bool true) ∧ Below s.heap.size s w')) := fun s hs => ihas_l true true true d3 d4 y g3 A3 n3 c3 xs3 e3 g4 A4 n4 c4 xs4 e4 y.neg Ay my cy sy y.e s (H3.out.below hs) (by omega) (H4.out.below hs) (by omega) (HYl.out.below hs) (by omega) (HT.out.below hs) (Lib.hid N3.out.1) (Lib.hid N4.out.1) (Lib.hid NY.out.1) Rv2 (decide_eq_true (by rw [N3.out.2.2, NY.out.2.2]; exact WY.out.1)) (decide_eq_true (by rw [NY.out.2.2, N4.out.2.2]; exact WY.out.2))
            have z0 : ∀ s : WIn (Below ur.heap.size ur), s.u.cell? ⟨w.heap.size, 0, none⟩ = some (.bool g1) := fun s => (Ja.out.below s.h).x0
            have z1 : ∀ s : WIn (Below ur.heap.size ur), s.u.cell? ⟨w.heap.size, 1, none⟩ = some (.slice A1 n1 c1) := fun s => (Ja.out.below s.h).x1
            have z2 : ∀ s : WIn (Below ur.heap.size ur), s.u.cell? ⟨w.heap.size, 2, none⟩ = some (.int .i64 e1) := fun s => (Ja.out.below s.h).x2
            have z3 : ∀ s : WIn (Below ur.heap.size ur), s.u.cell? ⟨w.heap.size, 3, none⟩ = some (.bool g2) := fun s => (Ja.out.below s.h).x3
            have z4 : ∀ s : WIn (Below ur.heap.size ur), s.u.cell? ⟨w.heap.size, 4, none⟩ = some (.slice A2 n2 c2) := fun s => (Ja.out.below s.h).x4
            have z5 : ∀ s : WIn (Below ur.heap.size ur), s.u.cell? ⟨w.heap.size, 5, none⟩ = some (.int .i64 e2) := fun s => (Ja.out.below s.h).x5
            have z6 : ∀ s : WIn (Below ur.heap.size ur), s.u.cell? ⟨(w.heap.size + 1), 0, none⟩ = some (.bool g3) := fun s => (Jk.out.below s.h).x0
            have z7 : ∀ s : WIn (Below ur.heap.size ur), s.u.cell? ⟨(w.heap.size + 1), 1, none⟩ = some (.slice A3 n3 c3) := fun s => (Jk.out.below s.h).x1
            have z8 : ∀ s : WIn (Below ur.heap.size ur), s.u.cell? ⟨(w.heap.size + 1), 2, none⟩ = some (.int .i64 e3) := fun s => (Jk.out.below s.h).x2
            have z9 : ∀ s : WIn (Below ur.heap.size ur), s.u.cell? ⟨(w.heap.size + 1), 3, none⟩ = some (.bool g4) := fun s => (Jk.out.below s.h).x3
            have z10 : ∀ s : WIn (Below ur.heap.size ur), s.u.cell? ⟨(w.heap.size + 1), 4, none⟩ = some (.slice A4 n4 c4) := fun s => (Jk.out.below s.h).x4
            have z11 : ∀ s : WIn (Below ur.heap.size ur), s.u.cell? ⟨(w.heap.size + 1), 5, none⟩ = some (.int .i64 e4) := fun s => (Jk.out.below s.h).x5
            have z12 : ∀ s : WIn (Below ur.heap.size ur), s.u.cell? ⟨px, 0, none⟩ = some (.bool x.neg) := fun s => (HX.out.below s.h).c0
            have z13 : ∀ s : WIn (Below ur.heap.size ur), s.u.cell? ⟨px, 1, none⟩ = some (.slice Ax mx cx) := fun s => (HX.out.below s.h).c1
            have z14 : ∀ s : WIn (Below ur.heap.size ur), s.u.cell? ⟨px, 2, none⟩ = some (.int .i64 x.e) := fun s => (HX.out.below s.h).c2
            have z15 : ∀ s : WIn (Below ur.heap.size ur), s.u.cell? ⟨py, 0, none⟩ = some (.bool y.neg) := fun s => (HY.out.below s.h).c0
            have z16 : ∀ s : WIn (Below ur.heap.size ur), s.u.cell? ⟨py, 1, none⟩ = some (.slice Ay my cy) := fun s => (HY.out.below s.h).c1
            have z17 : ∀ s : WIn (Below ur.heap.size ur), s.u.cell? ⟨py, 2, none⟩ = some (.int .i64 y.e) := fun s => (HY.out.below s.h).c2
            haveI ne : Nonempty (WIn (Below ur.heap.size ur)) := ⟨⟨_, Below.refl _ _⟩⟩
            go_wp2_with fail
            refine wp_region_quietC (C := Below ur.heap.size ur) (by kernel_rfl) (by kernel_rfl) (below_drew _) ?_
            repeat (quiet_step (first | (go_at_call 12; (with_reducible refine (CA.out _ (WIn.h _)).mono ?_); rintro e u1 ⟨rfl, hB⟩; exact ⟨rfl, ⟨⟨u1, win_next _ hB⟩, rfl⟩⟩) | (go_at_call 12; (with_reducible refine (CB.out _ (WIn.h _)).mono ?_); rintro e u1 ⟨rfl, hB⟩; exact ⟨rfl, ⟨⟨u1, win_next _ hB⟩, rfl⟩⟩) | (go_at_call 17; (with_reducible refine (CH1.out _ (WIn.h _)).mono ?_); rintro e u1 ⟨rfl, hB⟩; exact ⟨rfl, ⟨⟨u1, win_next _ hB⟩, rfl⟩⟩) | (go_at_call 17; (with_reducible refine (CH2.out _ (WIn.h _)).mono ?_); rintro e u1 ⟨rfl, hB⟩; exact ⟨rfl, ⟨⟨u1, win_next _ hB⟩, rfl⟩⟩)))
            refine wpQuiet_nil ?_
            rintro uq8 ⟨⟨uz, hB⟩, hz⟩
            have hz9 : uq8 = uz := hz
            clear hz
            subst hz9
            clear z0 z1 z2 z3 z4 z5 z6 z7 z8 z9 z10 z11 z12 z13 z14 z15 z16 z17 ne
            replace HT : Hid (Tab uq8) := HT.out.below hB
            replace H1 : Hid (Lim uq8 A1 n1 c1 xs1) := H1.out.below hB
            replace H2 : Hid (Lim uq8 A2 n2 c2 xs2) := H2.out.below hB
            replace H3 : Hid (Lim uq8 A3 n3 c3 xs3) := H3.out.below hB
            replace H4 : Hid (Lim uq8 A4 n4 c4 xs4) := H4.out.below hB
            replace Ja : Hid (Jb uq8 w.heap.size g1 A1 n1 c1 e1 g2 A2 n2 c2 e2) := Ja.out.below hB
            replace Jk : Hid (Jb uq8 (w.heap.size + 1) g3 A3 n3 c3 e3 g4 A4 n4 c4 e4) := Jk.out.below hB
            replace HX : Hid (Bd uq8 px 36 x.neg Ax mx cx x.e) := HX.out.below hB
            replace HXl : Hid (Lim uq8 Ax mx cx sx) := HXl.out.below hB
            replace HY : Hid (Bd uq8 py 36 y.neg Ay my cy y.e) := HY.out.below hB
            replace HYl : Hid (Lim uq8 Ay my cy sy) := HYl.out.below hB
            replace HS := Lib.hid (HS.out.trans (hB.mono HS.out.size))
            clear hB CA CB CH1 CH2
            have HX_0 := HX.out.c0
            have HX_1 := HX.out.c1
            have HX_2 := HX.out.c2
            have HY_0 := HY.out.c0
            have HY_1 := HY.out.c1
            have HY_2 := HY.out.c2
            obtain ⟨s, hs1, hs2, hs3⟩ := nm_add NX.out NY.out (by omega)
            obtain ⟨p, hp1, hp2, hp3⟩ := nm_mul NX.out NY.out (by omega)
            have SS : Hid (Sp 9000 s ∧ dwD s = dwD x + dwD y) := ⟨hs2.mono (by omega), hs3⟩
            have SPp : Hid (Sp 9000 p ∧ dwD p * (uK : Int) = dwD x * dwD y) := ⟨hp2.mono (by omega), hp3⟩
            have HS1 := Lib.hid hs1
            have HP1 := Lib.hid hp1
            clear hs1 hs2 hs3 hp1 hp2 hp3
            have K := Lib.hid (dadd_any (some s) x.neg Ax mx cx sx x.e y.neg Ay my cy sy y.e uq8 HXl.out HYl.out (by omega) (by omega) HT.out HS1)
            go_wp2_with fail
            refine K.out.mono ?_
            rintro e w9 ⟨gs, As, ms, cs, ss, Es, rs, rfl, hmx, hls, hbs, ⟨rfl, rfl, hzs, rfl⟩, hB⟩
            have hms : ms ≤ 300 := by rw [← hls.len]; exact sp_len SS.out.1 hls.words hbs hzs (by omega)
            clear HX_0 HX_1 HX_2 HY_0 HY_1 HY_2
            replace HT : Hid (Tab w9) := HT.out.below hB
            replace H1 : Hid (Lim w9 A1 n1 c1 xs1) := H1.out.below hB
            replace H2 : Hid (Lim w9 A2 n2 c2 xs2) := H2.out.below hB
            replace H3 : Hid (Lim w9 A3 n3 c3 xs3) := H3.out.below hB
            replace H4 : Hid (Lim w9 A4 n4 c4 xs4) := H4.out.below hB
            replace Ja : Hid (Jb w9 w.heap.size g1 A1 n1 c1 e1 g2 A2 n2 c2 e2) := Ja.out.below hB
            replace Jk : Hid (Jb w9 (w.heap.size + 1) g3 A3 n3 c3 e3 g4 A4 n4 c4 e4) := Jk.out.below hB
            replace HX : Hid (Bd w9 px 36 x.neg Ax mx cx x.e) := HX.out.below hB
            replace HXl : Hid (Lim w9 Ax mx cx sx) := HXl.out.below hB
            replace HY : Hid (Bd w9 py 36 y.neg Ay my cy y.e) := HY.out.below hB
            replace HYl : Hid (Lim w9 Ay my cy sy) := HYl.out.below hB
            replace HS := Lib.hid (HS.out.trans (hB.mono HS.out.size))
            have HLs : Hid (Lim w9 As ms cs ss) := hls
            have HVs : Hid (val ss = s.V) := hzs
            clear hls hbs hzs hB hmx K
            have ba := below1 w9 (.cells #[.bool s.neg, .slice As ms cs, .int .i64 s.e] 36)
            replace HT : Hid (Tab (w9.alloc (.cells #[.bool s.neg, .slice As ms cs, .int .i64 s.e] 36))) := HT.out.below ba
            replace H1 : Hid (Lim (w9.alloc (.cells #[.bool s.neg, .slice As ms cs, .int .i64 s.e] 36)) A1 n1 c1 xs1) := H1.out.below ba
            replace H2 : Hid (Lim (w9.alloc (.cells #[.bool s.neg, .slice As ms cs, .int .i64 s.e] 36)) A2 n2 c2 xs2) := H2.out.below ba
            replace H3 : Hid (Lim (w9.alloc (.cells #[.bool s.neg, .slice As ms cs, .int .i64 s.e] 36)) A3 n3 c3 xs3) := H3.out.below ba
            replace H4 : Hid (Lim (w9.alloc (.cells #[.bool s.neg, .slice As ms cs, .int .i64 s.e] 36)) A4 n4 c4 xs4) := H4.out.below ba
            replace Ja : Hid (Jb (w9.alloc (.cells #[.bool s.neg, .slice As ms cs, .int .i64 s.e] 36)) w.heap.size g1 A1 n1 c1 e1 g2 A2 n2 c2 e2) := Ja.out.below ba
            replace Jk : Hid (Jb (w9.alloc (.cells #[.bool s.neg, .slice As ms cs, .int .i64 s.e] 36)) (w.heap.size + 1) g3 A3 n3 c3 e3 g4 A4 n4 c4 e4) := Jk.out.below ba
            replace HX : Hid (Bd (w9.alloc (.cells #[.bool s.neg, .slice As ms cs, .int .i64 s.e] 36)) px 36 x.neg Ax mx cx x.e) := HX.out.below ba
            replace HXl : Hid (Lim (w9.alloc (.cells #[.bool s.neg, .slice As ms cs, .int .i64 s.e] 36)) Ax mx cx sx) := HXl.out.below ba
            replace HY : Hid (Bd (w9.alloc (.cells #[.bool s.neg, .slice As ms cs, .int .i64 s.e] 36)) py 36 y.neg Ay my cy y.e) := HY.out.below ba
            replace HYl : Hid (Lim (w9.alloc (.cells #[.bool s.neg, .slice As ms cs, .int .i64 s.e] 36)) Ay my cy sy) := HYl.out.below ba
            replace HLs : Hid (Lim (w9.alloc (.cells #[.bool s.neg, .slice As ms cs, .int .i64 s.e] 36)) As ms cs ss) := HLs.out.below ba
            replace HS := Lib.hid (HS.out.trans (ba.mono HS.out.size))
            clear ba
            have HNs : Hid (Bd (w9.alloc (.cells #[.bool s.neg, .slice As ms cs, .int .i64 s.e] 36)) w9.heap.size 36 s.neg As ms cs s.e) := Bd.new w9 36 s.neg As ms cs s.e
            clear HS1
            have HX_0 := HX.out.c0
            have HX_1 := HX.out.c1
            have HX_2 := HX.out.c2
            have HY_0 := HY.out.c0
            have HY_1 := HY.out.c1
            have HY_2 := HY.out.c2
            have K := Lib.hid (dmul_any (some p) x.neg Ax mx cx sx x.e y.neg Ay my cy sy y.e (w9.alloc (.cells #[.bool s.neg, .slice As ms cs, .int .i64 s.e] 36)) HXl.out HYl.out (by omega) (by omega) HT.out HP1)
            go_wp2_with fail
            refine K.out.mono ?_
            rintro e w10 ⟨gp, Ap, mp, cp, sp, Ep, rp, rfl, hmx, hlp, hbp, ⟨rfl, rfl, hzp, rfl⟩, hB⟩
            have hmp : mp ≤ 300 := by rw [← hlp.len]; exact sp_len SPp.out.1 hlp.words hbp hzp (by omega)
            clear HX_0 HX_1 HX_2 HY_0 HY_1 HY_2
            replace HT : Hid (Tab w10) := HT.out.below hB
            replace H1 : Hid (Lim w10 A1 n1 c1 xs1) := H1.out.below hB
            replace H2 : Hid (Lim w10 A2 n2 c2 xs2) := H2.out.below hB
            replace H3 : Hid (Lim w10 A3 n3 c3 xs3) := H3.out.below hB
            replace H4 : Hid (Lim w10 A4 n4 c4 xs4) := H4.out.below hB
            replace Ja : Hid (Jb w10 w.heap.size g1 A1 n1 c1 e1 g2 A2 n2 c2 e2) := Ja.out.below hB
            replace Jk : Hid (Jb w10 (w.heap.size + 1) g3 A3 n3 c3 e3 g4 A4 n4 c4 e4) := Jk.out.below hB
            replace HX : Hid (Bd w10 px 36 x.neg Ax mx cx x.e) := HX.out.below hB
            replace HXl : Hid (Lim w10 Ax mx cx sx) := HXl.out.below hB
            replace HY : Hid (Bd w10 py 36 y.neg Ay my cy y.e) := HY.out.below hB
            replace HYl : Hid (Lim w10 Ay my cy sy) := HYl.out.below hB
            replace HLs : Hid (Lim w10 As ms cs ss) := HLs.out.below hB
            replace HNs : Hid (Bd w10 w9.heap.size 36 s.neg As ms cs s.e) := HNs.out.below hB
            replace HS := Lib.hid (HS.out.trans (hB.mono HS.out.size))
            have HLp : Hid (Lim w10 Ap mp cp sp) := hlp
            have HVp : Hid (val sp = p.V) := hzp
            clear hlp hbp hzp hB hmx K
            have ba := below1 w10 (.cells #[.bool p.neg, .slice Ap mp cp, .int .i64 p.e] 36)
            replace HT : Hid (Tab (w10.alloc (.cells #[.bool p.neg, .slice Ap mp cp, .int .i64 p.e] 36))) := HT.out.below ba
            replace H1 : Hid (Lim (w10.alloc (.cells #[.bool p.neg, .slice Ap mp cp, .int .i64 p.e] 36)) A1 n1 c1 xs1) := H1.out.below ba
            replace H2 : Hid (Lim (w10.alloc (.cells #[.bool p.neg, .slice Ap mp cp, .int .i64 p.e] 36)) A2 n2 c2 xs2) := H2.out.below ba
            replace H3 : Hid (Lim (w10.alloc (.cells #[.bool p.neg, .slice Ap mp cp, .int .i64 p.e] 36)) A3 n3 c3 xs3) := H3.out.below ba
            replace H4 : Hid (Lim (w10.alloc (.cells #[.bool p.neg, .slice Ap mp cp, .int .i64 p.e] 36)) A4 n4 c4 xs4) := H4.out.below ba
            replace Ja : Hid (Jb (w10.alloc (.cells #[.bool p.neg, .slice Ap mp cp, .int .i64 p.e] 36)) w.heap.size g1 A1 n1 c1 e1 g2 A2 n2 c2 e2) := Ja.out.below ba
            replace Jk : Hid (Jb (w10.alloc (.cells #[.bool p.neg, .slice Ap mp cp, .int .i64 p.e] 36)) (w.heap.size + 1) g3 A3 n3 c3 e3 g4 A4 n4 c4 e4) := Jk.out.below ba
            replace HX : Hid (Bd (w10.alloc (.cells #[.bool p.neg, .slice Ap mp cp, .int .i64 p.e] 36)) px 36 x.neg Ax mx cx x.e) := HX.out.below ba
            replace HXl : Hid (Lim (w10.alloc (.cells #[.bool p.neg, .slice Ap mp cp, .int .i64 p.e] 36)) Ax mx cx sx) := HXl.out.below ba
            replace HY : Hid (Bd (w10.alloc (.cells #[.bool p.neg, .slice Ap mp cp, .int .i64 p.e] 36)) py 36 y.neg Ay my cy y.e) := HY.out.below ba
            replace HYl : Hid (Lim (w10.alloc (.cells #[.bool p.neg, .slice Ap mp cp, .int .i64 p.e] 36)) Ay my cy sy) := HYl.out.below ba
            replace HLs : Hid (Lim (w10.alloc (.cells #[.bool p.neg, .slice Ap mp cp, .int .i64 p.e] 36)) As ms cs ss) := HLs.out.below ba
            replace HNs : Hid (Bd (w10.alloc (.cells #[.bool p.neg, .slice Ap mp cp, .int .i64 p.e] 36)) w9.heap.size 36 s.neg As ms cs s.e) := HNs.out.below ba
            replace HLp : Hid (Lim (w10.alloc (.cells #[.bool p.neg, .slice Ap mp cp, .int .i64 p.e] 36)) Ap mp cp sp) := HLp.out.below ba
            replace HS := Lib.hid (HS.out.trans (ba.mono HS.out.size))
            clear ba
            have HNp : Hid (Bd (w10.alloc (.cells #[.bool p.neg, .slice Ap mp cp, .int .i64 p.e] 36)) w10.heap.size 36 p.neg Ap mp cp p.e) := Bd.new w10 36 p.neg Ap mp cp p.e
            clear HP1
            have NS : Hid (Nm 9000 s.neg (val ss) s.e s) := nm_val HVs.out SS.out.1
            have NP : Hid (Nm 9000 p.neg (val sp) p.e p) := nm_val HVp.out SPp.out.1
            clear HVs HVp
            clear HY HYl
            clear NY
            obtain ⟨s1, t1, o1, o2, z1, z2, v1e, v2e⟩ := nadd_ex N1.out N2.out N3.out N4.out (by omega)
            have SI : Hid ((Sp 9000 s1 ∧ Sp 9000 t1) ∧ dwD s1 = dwD d1 + dwD d3 ∧ dwD t1 = dwD d2 + dwD d4) := ⟨⟨z1, z2⟩, v1e, v2e⟩
            have O1 := Lib.hid o1
            have O2 := Lib.hid o2
            clear o1 o2 z1 z2 v1e v2e
            have CA : Hid (∀ s, Below (w10.alloc (.cells #[.bool p.neg, .slice Ap mp cp, .int .i64 p.e] 36)).heap.size (w10.alloc (.cells #[.bool p.neg, .slice Ap mp cp, .int .i64 p.e] 36)) s → Calls Tryd.prog 12 #[.agg #[.bool g1, .slice A1 n1 c1, .int .i64 e1, .bool g2, .slice A2 n2 c2, .int .i64 e2]] s (fun e w' => e = .returned (.agg #[.bool g1, .slice A1 n1 c1, .int .i64 e1, .bool g2, .slice A2 n2 c2, .int .i64 e2]) ∧ Below s.heap.size s w')) := fun s _ => of15_l g1 A1 n1 c1 e1 g2 A2 n2 c2 e2 s
            have CB : Hid (∀ s, Below (w10.alloc (.cells #[.bool p.neg, .slice Ap mp cp, .int .i64 p.e] 36)).heap.size (w10.alloc (.cells #[.bool p.neg, .slice Ap mp cp, .int .i64 p.e] 36)) s → Calls Tryd.prog 12 #[.agg #[.bool g3, .slice A3 n3 c3, .int .i64 e3, .bool g4, .slice A4 n4 c4, .int .i64 e4]] s (fun e w' => e = .returned (.agg #[.bool g3, .slice A3 n3 c3, .int .i64 e3, .bool g4, .slice A4 n4 c4, .int .i64 e4]) ∧ Below s.heap.size s w')) := fun s _ => of15_l g3 A3 n3 c3 e3 g4 A4 n4 c4 e4 s
            have CM : Hid (∀ s, Below (w10.alloc (.cells #[.bool p.neg, .slice Ap mp cp, .int .i64 p.e] 36)).heap.size (w10.alloc (.cells #[.bool p.neg, .slice Ap mp cp, .int .i64 p.e] 36)) s → Calls Tryd.prog 11 #[.agg #[.bool g1, .slice A1 n1 c1, .int .i64 e1, .bool g2, .slice A2 n2 c2, .int .i64 e2], .agg #[.bool g3, .slice A3 n3 c3, .int .i64 e3, .bool g4, .slice A4 n4 c4, .int .i64 e4]] s (STold s (fun X Y => X = s1 ∧ Y = t1))) := fun s hs => (ivadd_yes s1 t1 d1 d2 d3 d4 g1 A1 n1 c1 xs1 e1 g2 A2 n2 c2 xs2 e2 g3 A3 n3 c3 xs3 e3 g4 A4 n4 c4 xs4 e4 s (H1.out.below hs) (by omega) (H2.out.below hs) (by omega) (H3.out.below hs) (by omega) (H4.out.below hs) (by omega) (HT.out.below hs) (Lib.hid N1.out.1) (Lib.hid N2.out.1) (Lib.hid N3.out.1) (Lib.hid N4.out.1) Rv1 Rv2 O1 O2).mono fun _ _ h => vtold_short h fun X Y hq => ⟨by rw [hq.1]; exact SI.out.1.1, by rw [hq.2]; exact SI.out.1.2⟩
            have KEEP : Hid (∀ v, Below (w10.alloc (.cells #[.bool p.neg, .slice Ap mp cp, .int .i64 p.e] 36)).heap.size (w10.alloc (.cells #[.bool p.neg, .slice Ap mp cp, .int .i64 p.e] 36)) v → v.cell? ⟨w.heap.size, 0, none⟩ = some (.bool g1) ∧ v.cell? ⟨w.heap.size, 1, none⟩ = some (.slice A1 n1 c1) ∧ v.cell? ⟨w.heap.size, 2, none⟩ = some (.int .i64 e1) ∧ v.cell? ⟨w.heap.size, 3, none⟩ = some (.bool g2) ∧ v.cell? ⟨w.heap.size, 4, none⟩ = some (.slice A2 n2 c2) ∧ v.cell? ⟨w.heap.size, 5, none⟩ = some (.int .i64 e2) ∧ v.cell? ⟨(w.heap.size + 1), 0, none⟩ = some (.bool g3) ∧ v.cell? ⟨(w.heap.size + 1), 1, none⟩ = some (.slice A3 n3 c3) ∧ v.cell? ⟨(w.heap.size + 1), 2, none⟩ = some (.int .i64 e3) ∧ v.cell? ⟨(w.heap.size + 1), 3, none⟩ = some (.bool g4) ∧ v.cell? ⟨(w.heap.size + 1), 4, none⟩ = some (.slice A4 n4 c4) ∧ v.cell? ⟨(w.heap.size + 1), 5, none⟩ = some (.int .i64 e4)) := fun v hv => ⟨(Ja.out.below hv).x0, (Ja.out.below hv).x1, (Ja.out.below hv).x2, (Ja.out.below hv).x3, (Ja.out.below hv).x4, (Ja.out.below hv).x5, (Jk.out.below hv).x0, (Jk.out.below hv).x1, (Jk.out.below hv).x2, (Jk.out.below hv).x3, (Jk.out.below hv).x4, (Jk.out.below hv).x5⟩
            have cur := Lib.hid ((HoldUI.start (w10.alloc (.cells #[.bool p.neg, .slice Ap mp cp, .int .i64 p.e] 36))).below (below_drew _))
            have F1 := (HoldUI.start (w10.alloc (.cells #[.bool p.neg, .slice Ap mp cp, .int .i64 p.e] 36))).one.below (below_drew _)
            (try rw [World.size_alloc] at F1)
            replace F1 := Lib.hid F1
            go_wp2_with fail
            go_cut [15, 16] from 43 (fun s13 s14 wx => ∃ (p4 : Nat) (ga : Bool) (Aa : Option Addr) (ma ca : Nat) (za : List Nat) (ea : Int) (gb : Bool) (Ab : Option Addr) (mb cb : Nat) (zb : List Nat) (eb : Int), s13 = .pointer (some ⟨p4, 0, none⟩) ∧ s14 = .int .i64 0 ∧ ma ≤ 300 ∧ mb ≤ 300 ∧ Hid (RelI (w10.alloc (.cells #[.bool p.neg, .slice Ap mp cp, .int .i64 p.e] 36)) p4 ga Aa ma ca ea za gb Ab mb cb eb zb wx ∧ Bare za ∧ Bare zb ∧ (⟨ga, val za, ea⟩ : Dy) = s1 ∧ (⟨gb, val zb, eb⟩ : Dy) = t1))
            case first =>
              as_aux_lemma =>
              go_region_held3 (fun v => v.cell? ⟨w.heap.size, 0, none⟩ = some (.bool g1) ∧ v.cell? ⟨w.heap.size, 1, none⟩ = some (.slice A1 n1 c1) ∧ v.cell? ⟨w.heap.size, 2, none⟩ = some (.int .i64 e1) ∧ v.cell? ⟨w.heap.size, 3, none⟩ = some (.bool g2) ∧ v.cell? ⟨w.heap.size, 4, none⟩ = some (.slice A2 n2 c2) ∧ v.cell? ⟨w.heap.size, 5, none⟩ = some (.int .i64 e2) ∧ v.cell? ⟨(w.heap.size + 1), 0, none⟩ = some (.bool g3) ∧ v.cell? ⟨(w.heap.size + 1), 1, none⟩ = some (.slice A3 n3 c3) ∧ v.cell? ⟨(w.heap.size + 1), 2, none⟩ = some (.int .i64 e3) ∧ v.cell? ⟨(w.heap.size + 1), 3, none⟩ = some (.bool g4) ∧ v.cell? ⟨(w.heap.size + 1), 4, none⟩ = some (.slice A4 n4 c4) ∧ v.cell? ⟨(w.heap.size + 1), 5, none⟩ = some (.int .i64 e4)) (first | (with_reducible exact KEEP.out _ cur.out.old) | (with_reducible exact KEEP.out _ F1.out.old) | (with_reducible exact KEEP.out _ (cur.out.a1 _)) | (with_reducible exact KEEP.out _ (cur.out.at1 _ _ _ _ _ _ _ _ _ _)))
                (first
                  | (go_at_call 12; (with_reducible refine (CA.out _ (by first | (with_reducible exact cur.out.old) | (with_reducible exact F1.out.old) | (with_reducible exact cur.out.a1 _))).mono ?_); rintro e u1 ⟨rfl, hB1⟩; (first | (with_reducible (replace cur := Lib.hid (cur.out.below hB1))) | (with_reducible (replace cur := Lib.hid (cur.out.one.below hB1))) | (with_reducible (replace cur := Lib.hid (F1.out.below hB1)))); clear hB1; (first | (have kx := cur.out.first; have x0 := kx.x0; have x1 := kx.x1; have x2 := kx.x2; have x3 := kx.x3; have x4 := kx.x4; have x5 := kx.x5; have xf := kx.fz; have xl := kx.lt; clear kx) | skip))
                  | (go_at_call 12; (with_reducible refine (CB.out _ (by first | (with_reducible exact cur.out.old) | (with_reducible exact F1.out.old) | (with_reducible exact cur.out.a1 _))).mono ?_); rintro e u1 ⟨rfl, hB1⟩; (first | (with_reducible (replace cur := Lib.hid (cur.out.below hB1))) | (with_reducible (replace cur := Lib.hid (cur.out.one.below hB1))) | (with_reducible (replace cur := Lib.hid (F1.out.below hB1)))); clear hB1; (first | (have kx := cur.out.first; have x0 := kx.x0; have x1 := kx.x1; have x2 := kx.x2; have x3 := kx.x3; have x4 := kx.x4; have x5 := kx.x5; have xf := kx.fz; have xl := kx.lt; clear kx) | skip))
                  | (go_at_call 11; (with_reducible refine (CM.out _ (by first | (with_reducible exact cur.out.old) | (with_reducible exact F1.out.old) | (with_reducible exact cur.out.a1 _))).mono ?_); rintro e u2 ⟨ga, Aa, ma, ca, za, ea, gb, Ab, mb, cb, zb, eb, rfl, hma, hmb, hla, hlb, hba, hbb, hB2, hQ⟩; (first | (with_reducible (replace cur := Lib.hid (cur.out.below hB2))) | (with_reducible (replace cur := Lib.hid (cur.out.one.below hB2))) | (with_reducible (replace cur := Lib.hid (F1.out.below hB2)))); have L2 : Hid (Lim u2 Aa ma ca za ∧ Lim u2 Ab mb cb zb ∧ Bare za ∧ Bare zb ∧ (⟨ga, val za, ea⟩ : Dy) = s1 ∧ (⟨gb, val zb, eb⟩ : Dy) = t1) := ⟨hla, hlb, hba, hbb, hQ⟩; clear hla hlb hba hbb hQ hB2; (first | (have kx := cur.out.first; have x0 := kx.x0; have x1 := kx.x1; have x2 := kx.x2; have x3 := kx.x3; have x4 := kx.x4; have x5 := kx.x5; have xf := kx.fz; have xl := kx.lt; clear kx) | skip)))
              all_goals (go_wp2_with fail)
              all_goals go_meet
              all_goals (refine ⟨_, ga, Aa, ma, ca, za, ea, gb, Ab, mb, cb, zb, eb, rfl, rfl, hma, hmb, ?_⟩)
              all_goals (first
                | (have t := RelI.last (e1 := ea) (g1 := ga) (e2 := eb) (g2 := gb) cur.out L2.out.1 L2.out.2.1; have t2 := And.intro t L2.out.2.2; (with_reducible exact Lib.hid t2))
                | (have t := RelI.ahead (e1 := ea) (g1 := ga) (e2 := eb) (g2 := gb) cur.out L2.out.1 L2.out.2.1; have t2 := And.intro t L2.out.2.2; (with_reducible exact Lib.hid t2)))
            case rest =>
              clear cur F1 KEEP CA CB CM
              obtain ⟨ux11, rfl⟩ : ∃ u, u = wc := ⟨_, rfl⟩
              obtain ⟨pi, gia, Aia, mia, cia, sia, eia, gib, Aib, mib, cib, sib, eib, rfl, rfl, hmia, hmib, HRx⟩ := hcut
              have hB := HRx.out.1.1
              replace HT : Hid (Tab ux11) := HT.out.below hB
              replace H1 : Hid (Lim ux11 A1 n1 c1 xs1) := H1.out.below hB
              replace H2 : Hid (Lim ux11 A2 n2 c2 xs2) := H2.out.below hB
              replace H3 : Hid (Lim ux11 A3 n3 c3 xs3) := H3.out.below hB
              replace H4 : Hid (Lim ux11 A4 n4 c4 xs4) := H4.out.below hB
              replace Ja : Hid (Jb ux11 w.heap.size g1 A1 n1 c1 e1 g2 A2 n2 c2 e2) := Ja.out.below hB
              replace Jk : Hid (Jb ux11 (w.heap.size + 1) g3 A3 n3 c3 e3 g4 A4 n4 c4 e4) := Jk.out.below hB
              replace HX : Hid (Bd ux11 px 36 x.neg Ax mx cx x.e) := HX.out.below hB
              replace HXl : Hid (Lim ux11 Ax mx cx sx) := HXl.out.below hB
              replace HLs : Hid (Lim ux11 As ms cs ss) := HLs.out.below hB
              replace HNs : Hid (Bd ux11 w9.heap.size 36 s.neg As ms cs s.e) := HNs.out.below hB
              replace HLp : Hid (Lim ux11 Ap mp cp sp) := HLp.out.below hB
              replace HNp : Hid (Bd ux11 w10.heap.size 36 p.neg Ap mp cp p.e) := HNp.out.below hB
              replace HS := Lib.hid (HS.out.trans (hB.mono HS.out.size))
              have HIi : Hid (Ib ux11 pi gia Aia mia cia eia gib Aib mib cib eib) := HRx.out.1.2.1
              have HLi : Hid (Lim ux11 Aia mia cia sia) := HRx.out.1.2.2.1
              have HHi : Hid (Lim ux11 Aib mib cib sib) := HRx.out.1.2.2.2.1
              have HQi : Hid (Bare sia ∧ Bare sib ∧ (⟨gia, val sia, eia⟩ : Dy) = s1 ∧ (⟨gib, val sib, eib⟩ : Dy) = t1) := HRx.out.2
              clear HRx hB
              clear O1 O2
              have NI : Hid (Nm 9000 gia (val sia) eia s1 ∧ Nm 9000 gib (val sib) eib t1) := ⟨nm_eq HQi.out.2.2.1 SI.out.1.1, nm_eq HQi.out.2.2.2 SI.out.1.2⟩
              clear HQi
              obtain ⟨m0, m1, m2, m3, o0, o1, o2, o3, hM⟩ := nmul_ex N1.out N2.out N3.out N4.out (by omega)
              have HM := Lib.hid hM
              have O0 := Lib.hid o0
              have O1 := Lib.hid o1
              have O2 := Lib.hid o2
              have O3 := Lib.hid o3
              clear o0 o1 o2 o3 hM
              have CA : Hid (∀ s, Below ux11.heap.size ux11 s → Calls Tryd.prog 12 #[.agg #[.bool g1, .slice A1 n1 c1, .int .i64 e1, .bool g2, .slice A2 n2 c2, .int .i64 e2]] s (fun e w' => e = .returned (.agg #[.bool g1, .slice A1 n1 c1, .int .i64 e1, .bool g2, .slice A2 n2 c2, .int .i64 e2]) ∧ Below s.heap.size s w')) := fun s _ => of15_l g1 A1 n1 c1 e1 g2 A2 n2 c2 e2 s
              have CB : Hid (∀ s, Below ux11.heap.size ux11 s → Calls Tryd.prog 12 #[.agg #[.bool g3, .slice A3 n3 c3, .int .i64 e3, .bool g4, .slice A4 n4 c4, .int .i64 e4]] s (fun e w' => e = .returned (.agg #[.bool g3, .slice A3 n3 c3, .int .i64 e3, .bool g4, .slice A4 n4 c4, .int .i64 e4]) ∧ Below s.heap.size s w')) := fun s _ => of15_l g3 A3 n3 c3 e3 g4 A4 n4 c4 e4 s
              have CM : Hid (∀ s, Below ux11.heap.size ux11 s → Calls Tryd.prog 13 #[.agg #[.bool g1, .slice A1 n1 c1, .int .i64 e1, .bool g2, .slice A2 n2 c2, .int .i64 e2], .agg #[.bool g3, .slice A3 n3 c3, .int .i64 e3, .bool g4, .slice A4 n4 c4, .int .i64 e4]] s (STold s (fun X Y => ((Sp 9000 X ∧ Sp 9000 Y) ∧ dwD X * (uK : Int) = lo4 (dwD d1) (dwD d2) (dwD d3) (dwD d4) ∧ dwD Y * (uK : Int) = hi4 (dwD d1) (dwD d2) (dwD d3) (dwD d4))))) := fun s hs => (ivmul_yes m0 m1 m2 m3 d1 d2 d3 d4 g1 A1 n1 c1 xs1 e1 g2 A2 n2 c2 xs2 e2 g3 A3 n3 c3 xs3 e3 g4 A4 n4 c4 xs4 e4 s (H1.out.below hs) (by omega) (H2.out.below hs) (by omega) (H3.out.below hs) (by omega) (H4.out.below hs) (by omega) (HT.out.below hs) (Lib.hid N1.out.1) (Lib.hid N2.out.1) (Lib.hid N3.out.1) (Lib.hid N4.out.1) Rv1 Rv2 O0 O1 O2 O3).mono fun _ _ h => stold_imp (vtold_short h fun X Y hq => (HM.out X Y hq).1) fun X Y hq => HM.out X Y hq
              have KEEP : Hid (∀ v, Below ux11.heap.size ux11 v → v.cell? ⟨w.heap.size, 0, none⟩ = some (.bool g1) ∧ v.cell? ⟨w.heap.size, 1, none⟩ = some (.slice A1 n1 c1) ∧ v.cell? ⟨w.heap.size, 2, none⟩ = some (.int .i64 e1) ∧ v.cell? ⟨w.heap.size, 3, none⟩ = some (.bool g2) ∧ v.cell? ⟨w.heap.size, 4, none⟩ = some (.slice A2 n2 c2) ∧ v.cell? ⟨w.heap.size, 5, none⟩ = some (.int .i64 e2) ∧ v.cell? ⟨(w.heap.size + 1), 0, none⟩ = some (.bool g3) ∧ v.cell? ⟨(w.heap.size + 1), 1, none⟩ = some (.slice A3 n3 c3) ∧ v.cell? ⟨(w.heap.size + 1), 2, none⟩ = some (.int .i64 e3) ∧ v.cell? ⟨(w.heap.size + 1), 3, none⟩ = some (.bool g4) ∧ v.cell? ⟨(w.heap.size + 1), 4, none⟩ = some (.slice A4 n4 c4) ∧ v.cell? ⟨(w.heap.size + 1), 5, none⟩ = some (.int .i64 e4)) := fun v hv => ⟨(Ja.out.below hv).x0, (Ja.out.below hv).x1, (Ja.out.below hv).x2, (Ja.out.below hv).x3, (Ja.out.below hv).x4, (Ja.out.below hv).x5, (Jk.out.below hv).x0, (Jk.out.below hv).x1, (Jk.out.below hv).x2, (Jk.out.below hv).x3, (Jk.out.below hv).x4, (Jk.out.below hv).x5⟩
              have cur := Lib.hid ((HoldUI.start ux11).below (below_drew _))
              have F1 := (HoldUI.start ux11).one.below (below_drew _)
              replace F1 := Lib.hid F1
              go_wp2_with fail
              go_cut [17, 18] from 43 (fun s13 s14 wx => ∃ (p4 : Nat) (ga : Bool) (Aa : Option Addr) (ma ca : Nat) (za : List Nat) (ea : Int) (gb : Bool) (Ab : Option Addr) (mb cb : Nat) (zb : List Nat) (eb : Int), s13 = .pointer (some ⟨p4, 0, none⟩) ∧ s14 = .int .i64 0 ∧ ma ≤ 300 ∧ mb ≤ 300 ∧ Hid (RelI ux11 p4 ga Aa ma ca ea za gb Ab mb cb eb zb wx ∧ Bare za ∧ Bare zb ∧ ((Sp 9000 ⟨ga, val za, ea⟩ ∧ Sp 9000 ⟨gb, val zb, eb⟩) ∧ dwD ⟨ga, val za, ea⟩ * (uK : Int) = lo4 (dwD d1) (dwD d2) (dwD d3) (dwD d4) ∧ dwD ⟨gb, val zb, eb⟩ * (uK : Int) = hi4 (dwD d1) (dwD d2) (dwD d3) (dwD d4))))
              case first =>
                as_aux_lemma =>
                go_region_held3 (fun v => v.cell? ⟨w.heap.size, 0, none⟩ = some (.bool g1) ∧ v.cell? ⟨w.heap.size, 1, none⟩ = some (.slice A1 n1 c1) ∧ v.cell? ⟨w.heap.size, 2, none⟩ = some (.int .i64 e1) ∧ v.cell? ⟨w.heap.size, 3, none⟩ = some (.bool g2) ∧ v.cell? ⟨w.heap.size, 4, none⟩ = some (.slice A2 n2 c2) ∧ v.cell? ⟨w.heap.size, 5, none⟩ = some (.int .i64 e2) ∧ v.cell? ⟨(w.heap.size + 1), 0, none⟩ = some (.bool g3) ∧ v.cell? ⟨(w.heap.size + 1), 1, none⟩ = some (.slice A3 n3 c3) ∧ v.cell? ⟨(w.heap.size + 1), 2, none⟩ = some (.int .i64 e3) ∧ v.cell? ⟨(w.heap.size + 1), 3, none⟩ = some (.bool g4) ∧ v.cell? ⟨(w.heap.size + 1), 4, none⟩ = some (.slice A4 n4 c4) ∧ v.cell? ⟨(w.heap.size + 1), 5, none⟩ = some (.int .i64 e4)) (first | (with_reducible exact KEEP.out _ cur.out.old) | (with_reducible exact KEEP.out _ F1.out.old) | (with_reducible exact KEEP.out _ (cur.out.a1 _)) | (with_reducible exact KEEP.out _ (cur.out.at1 _ _ _ _ _ _ _ _ _ _)))
                  (first
                    | (go_at_call 12; (with_reducible refine (CA.out _ (by first | (with_reducible exact cur.out.old) | (with_reducible exact F1.out.old) | (with_reducible exact cur.out.a1 _))).mono ?_); rintro e u1 ⟨rfl, hB1⟩; (first | (with_reducible (replace cur := Lib.hid (cur.out.below hB1))) | (with_reducible (replace cur := Lib.hid (cur.out.one.below hB1))) | (with_reducible (replace cur := Lib.hid (F1.out.below hB1)))); clear hB1; (first | (have kx := cur.out.first; have x0 := kx.x0; have x1 := kx.x1; have x2 := kx.x2; have x3 := kx.x3; have x4 := kx.x4; have x5 := kx.x5; have xf := kx.fz; have xl := kx.lt; clear kx) | skip))
                    | (go_at_call 12; (with_reducible refine (CB.out _ (by first | (with_reducible exact cur.out.old) | (with_reducible exact F1.out.old) | (with_reducible exact cur.out.a1 _))).mono ?_); rintro e u1 ⟨rfl, hB1⟩; (first | (with_reducible (replace cur := Lib.hid (cur.out.below hB1))) | (with_reducible (replace cur := Lib.hid (cur.out.one.below hB1))) | (with_reducible (replace cur := Lib.hid (F1.out.below hB1)))); clear hB1; (first | (have kx := cur.out.first; have x0 := kx.x0; have x1 := kx.x1; have x2 := kx.x2; have x3 := kx.x3; have x4 := kx.x4; have x5 := kx.x5; have xf := kx.fz; have xl := kx.lt; clear kx) | skip))
                    | (go_at_call 13; (with_reducible refine (CM.out _ (by first | (with_reducible exact cur.out.old) | (with_reducible exact F1.out.old) | (with_reducible exact cur.out.a1 _))).mono ?_); rintro e u2 ⟨ga, Aa, ma, ca, za, ea, gb, Ab, mb, cb, zb, eb, rfl, hma, hmb, hla, hlb, hba, hbb, hB2, hQ⟩; (first | (with_reducible (replace cur := Lib.hid (cur.out.below hB2))) | (with_reducible (replace cur := Lib.hid (cur.out.one.below hB2))) | (with_reducible (replace cur := Lib.hid (F1.out.below hB2)))); have L2 : Hid (Lim u2 Aa ma ca za ∧ Lim u2 Ab mb cb zb ∧ Bare za ∧ Bare zb ∧ ((Sp 9000 ⟨ga, val za, ea⟩ ∧ Sp 9000 ⟨gb, val zb, eb⟩) ∧ dwD ⟨ga, val za, ea⟩ * (uK : Int) = lo4 (dwD d1) (dwD d2) (dwD d3) (dwD d4) ∧ dwD ⟨gb, val zb, eb⟩ * (uK : Int) = hi4 (dwD d1) (dwD d2) (dwD d3) (dwD d4))) := ⟨hla, hlb, hba, hbb, hQ⟩; clear hla hlb hba hbb hQ hB2; (first | (have kx := cur.out.first; have x0 := kx.x0; have x1 := kx.x1; have x2 := kx.x2; have x3 := kx.x3; have x4 := kx.x4; have x5 := kx.x5; have xf := kx.fz; have xl := kx.lt; clear kx) | skip)))
                all_goals (go_wp2_with fail)
                all_goals go_meet
                all_goals (refine ⟨_, ga, Aa, ma, ca, za, ea, gb, Ab, mb, cb, zb, eb, rfl, rfl, hma, hmb, ?_⟩)
                all_goals (first
                  | (have t := RelI.last (e1 := ea) (g1 := ga) (e2 := eb) (g2 := gb) cur.out L2.out.1 L2.out.2.1; have t2 := And.intro t L2.out.2.2; (with_reducible exact Lib.hid t2))
                  | (have t := RelI.ahead (e1 := ea) (g1 := ga) (e2 := eb) (g2 := gb) cur.out L2.out.1 L2.out.2.1; have t2 := And.intro t L2.out.2.2; (with_reducible exact Lib.hid t2)))
              case rest =>
                clear cur F1 KEEP CA CB CM
                obtain ⟨ux12, rfl⟩ : ∃ u, u = wc := ⟨_, rfl⟩
                obtain ⟨pk, gka, Aka, mka, cka, ska, eka, gkb, Akb, mkb, ckb, skb, ekb, rfl, rfl, hmka, hmkb, HRx⟩ := hcut
                have hB := HRx.out.1.1
                replace HT : Hid (Tab ux12) := HT.out.below hB
                replace H1 : Hid (Lim ux12 A1 n1 c1 xs1) := H1.out.below hB
                replace H2 : Hid (Lim ux12 A2 n2 c2 xs2) := H2.out.below hB
                replace H3 : Hid (Lim ux12 A3 n3 c3 xs3) := H3.out.below hB
                replace H4 : Hid (Lim ux12 A4 n4 c4 xs4) := H4.out.below hB
                replace Ja : Hid (Jb ux12 w.heap.size g1 A1 n1 c1 e1 g2 A2 n2 c2 e2) := Ja.out.below hB
                replace Jk : Hid (Jb ux12 (w.heap.size + 1) g3 A3 n3 c3 e3 g4 A4 n4 c4 e4) := Jk.out.below hB
                replace HX : Hid (Bd ux12 px 36 x.neg Ax mx cx x.e) := HX.out.below hB
                replace HXl : Hid (Lim ux12 Ax mx cx sx) := HXl.out.below hB
                replace HLs : Hid (Lim ux12 As ms cs ss) := HLs.out.below hB
                replace HNs : Hid (Bd ux12 w9.heap.size 36 s.neg As ms cs s.e) := HNs.out.below hB
                replace HLp : Hid (Lim ux12 Ap mp cp sp) := HLp.out.below hB
                replace HNp : Hid (Bd ux12 w10.heap.size 36 p.neg Ap mp cp p.e) := HNp.out.below hB
                replace HIi : Hid (Ib ux12 pi gia Aia mia cia eia gib Aib mib cib eib) := HIi.out.below hB
                replace HLi : Hid (Lim ux12 Aia mia cia sia) := HLi.out.below hB
                replace HHi : Hid (Lim ux12 Aib mib cib sib) := HHi.out.below hB
                replace HS := Lib.hid (HS.out.trans (hB.mono HS.out.size))
                have HIk : Hid (Ib ux12 pk gka Aka mka cka eka gkb Akb mkb ckb ekb) := HRx.out.1.2.1
                have HLk : Hid (Lim ux12 Aka mka cka ska) := HRx.out.1.2.2.1
                have HHk : Hid (Lim ux12 Akb mkb ckb skb) := HRx.out.1.2.2.2.1
                have HQk : Hid (Bare ska ∧ Bare skb ∧ ((Sp 9000 ⟨gka, val ska, eka⟩ ∧ Sp 9000 ⟨gkb, val skb, ekb⟩) ∧ dwD ⟨gka, val ska, eka⟩ * (uK : Int) = lo4 (dwD d1) (dwD d2) (dwD d3) (dwD d4) ∧ dwD ⟨gkb, val skb, ekb⟩ * (uK : Int) = hi4 (dwD d1) (dwD d2) (dwD d3) (dwD d4))) := HRx.out.2
                clear HRx hB
                clear HM O0 O1 O2 O3
                obtain ⟨m0, m1, m2, m3, o0, o1, o2, o3, hM⟩ := nmul_ex N3.out N4.out N1.out N2.out (by omega)
                have HM := Lib.hid hM
                have O0 := Lib.hid o0
                have O1 := Lib.hid o1
                have O2 := Lib.hid o2
                have O3 := Lib.hid o3
                clear o0 o1 o2 o3 hM
                have CA : Hid (∀ s, Below ux12.heap.size ux12 s → Calls Tryd.prog 12 #[.agg #[.bool g3, .slice A3 n3 c3, .int .i64 e3, .bool g4, .slice A4 n4 c4, .int .i64 e4]] s (fun e w' => e = .returned (.agg #[.bool g3, .slice A3 n3 c3, .int .i64 e3, .bool g4, .slice A4 n4 c4, .int .i64 e4]) ∧ Below s.heap.size s w')) := fun s _ => of15_l g3 A3 n3 c3 e3 g4 A4 n4 c4 e4 s
                have CB : Hid (∀ s, Below ux12.heap.size ux12 s → Calls Tryd.prog 12 #[.agg #[.bool g1, .slice A1 n1 c1, .int .i64 e1, .bool g2, .slice A2 n2 c2, .int .i64 e2]] s (fun e w' => e = .returned (.agg #[.bool g1, .slice A1 n1 c1, .int .i64 e1, .bool g2, .slice A2 n2 c2, .int .i64 e2]) ∧ Below s.heap.size s w')) := fun s _ => of15_l g1 A1 n1 c1 e1 g2 A2 n2 c2 e2 s
                have CM : Hid (∀ s, Below ux12.heap.size ux12 s → Calls Tryd.prog 13 #[.agg #[.bool g3, .slice A3 n3 c3, .int .i64 e3, .bool g4, .slice A4 n4 c4, .int .i64 e4], .agg #[.bool g1, .slice A1 n1 c1, .int .i64 e1, .bool g2, .slice A2 n2 c2, .int .i64 e2]] s (STold s (fun X Y => ((Sp 9000 X ∧ Sp 9000 Y) ∧ dwD X * (uK : Int) = lo4 (dwD d3) (dwD d4) (dwD d1) (dwD d2) ∧ dwD Y * (uK : Int) = hi4 (dwD d3) (dwD d4) (dwD d1) (dwD d2))))) := fun s hs => (ivmul_yes m0 m1 m2 m3 d3 d4 d1 d2 g3 A3 n3 c3 xs3 e3 g4 A4 n4 c4 xs4 e4 g1 A1 n1 c1 xs1 e1 g2 A2 n2 c2 xs2 e2 s (H3.out.below hs) (by omega) (H4.out.below hs) (by omega) (H1.out.below hs) (by omega) (H2.out.below hs) (by omega) (HT.out.below hs) (Lib.hid N3.out.1) (Lib.hid N4.out.1) (Lib.hid N1.out.1) (Lib.hid N2.out.1) Rv2 Rv1 O0 O1 O2 O3).mono fun _ _ h => stold_imp (vtold_short h fun X Y hq => (HM.out X Y hq).1) fun X Y hq => HM.out X Y hq
                have KEEP : Hid (∀ v, Below ux12.heap.size ux12 v → v.cell? ⟨w.heap.size, 0, none⟩ = some (.bool g1) ∧ v.cell? ⟨w.heap.size, 1, none⟩ = some (.slice A1 n1 c1) ∧ v.cell? ⟨w.heap.size, 2, none⟩ = some (.int .i64 e1) ∧ v.cell? ⟨w.heap.size, 3, none⟩ = some (.bool g2) ∧ v.cell? ⟨w.heap.size, 4, none⟩ = some (.slice A2 n2 c2) ∧ v.cell? ⟨w.heap.size, 5, none⟩ = some (.int .i64 e2) ∧ v.cell? ⟨(w.heap.size + 1), 0, none⟩ = some (.bool g3) ∧ v.cell? ⟨(w.heap.size + 1), 1, none⟩ = some (.slice A3 n3 c3) ∧ v.cell? ⟨(w.heap.size + 1), 2, none⟩ = some (.int .i64 e3) ∧ v.cell? ⟨(w.heap.size + 1), 3, none⟩ = some (.bool g4) ∧ v.cell? ⟨(w.heap.size + 1), 4, none⟩ = some (.slice A4 n4 c4) ∧ v.cell? ⟨(w.heap.size + 1), 5, none⟩ = some (.int .i64 e4)) := fun v hv => ⟨(Ja.out.below hv).x0, (Ja.out.below hv).x1, (Ja.out.below hv).x2, (Ja.out.below hv).x3, (Ja.out.below hv).x4, (Ja.out.below hv).x5, (Jk.out.below hv).x0, (Jk.out.below hv).x1, (Jk.out.below hv).x2, (Jk.out.below hv).x3, (Jk.out.below hv).x4, (Jk.out.below hv).x5⟩
                have cur := Lib.hid ((HoldUI.start ux12).below (below_drew _))
                have F1 := (HoldUI.start ux12).one.below (below_drew _)
                replace F1 := Lib.hid F1
                go_wp2_with fail
                go_cut [19, 20] from 43 (fun s13 s14 wx => ∃ (p4 : Nat) (ga : Bool) (Aa : Option Addr) (ma ca : Nat) (za : List Nat) (ea : Int) (gb : Bool) (Ab : Option Addr) (mb cb : Nat) (zb : List Nat) (eb : Int), s13 = .pointer (some ⟨p4, 0, none⟩) ∧ s14 = .int .i64 0 ∧ ma ≤ 300 ∧ mb ≤ 300 ∧ Hid (RelI ux12 p4 ga Aa ma ca ea za gb Ab mb cb eb zb wx ∧ Bare za ∧ Bare zb ∧ ((Sp 9000 ⟨ga, val za, ea⟩ ∧ Sp 9000 ⟨gb, val zb, eb⟩) ∧ dwD ⟨ga, val za, ea⟩ * (uK : Int) = lo4 (dwD d3) (dwD d4) (dwD d1) (dwD d2) ∧ dwD ⟨gb, val zb, eb⟩ * (uK : Int) = hi4 (dwD d3) (dwD d4) (dwD d1) (dwD d2))))
                case first =>
                  as_aux_lemma =>
                  go_region_held3 (fun v => v.cell? ⟨w.heap.size, 0, none⟩ = some (.bool g1) ∧ v.cell? ⟨w.heap.size, 1, none⟩ = some (.slice A1 n1 c1) ∧ v.cell? ⟨w.heap.size, 2, none⟩ = some (.int .i64 e1) ∧ v.cell? ⟨w.heap.size, 3, none⟩ = some (.bool g2) ∧ v.cell? ⟨w.heap.size, 4, none⟩ = some (.slice A2 n2 c2) ∧ v.cell? ⟨w.heap.size, 5, none⟩ = some (.int .i64 e2) ∧ v.cell? ⟨(w.heap.size + 1), 0, none⟩ = some (.bool g3) ∧ v.cell? ⟨(w.heap.size + 1), 1, none⟩ = some (.slice A3 n3 c3) ∧ v.cell? ⟨(w.heap.size + 1), 2, none⟩ = some (.int .i64 e3) ∧ v.cell? ⟨(w.heap.size + 1), 3, none⟩ = some (.bool g4) ∧ v.cell? ⟨(w.heap.size + 1), 4, none⟩ = some (.slice A4 n4 c4) ∧ v.cell? ⟨(w.heap.size + 1), 5, none⟩ = some (.int .i64 e4)) (first | (with_reducible exact KEEP.out _ cur.out.old) | (with_reducible exact KEEP.out _ F1.out.old) | (with_reducible exact KEEP.out _ (cur.out.a1 _)) | (with_reducible exact KEEP.out _ (cur.out.at1 _ _ _ _ _ _ _ _ _ _)))
                    (first
                      | (go_at_call 12; (with_reducible refine (CA.out _ (by first | (with_reducible exact cur.out.old) | (with_reducible exact F1.out.old) | (with_reducible exact cur.out.a1 _))).mono ?_); rintro e u1 ⟨rfl, hB1⟩; (first | (with_reducible (replace cur := Lib.hid (cur.out.below hB1))) | (with_reducible (replace cur := Lib.hid (cur.out.one.below hB1))) | (with_reducible (replace cur := Lib.hid (F1.out.below hB1)))); clear hB1; (first | (have kx := cur.out.first; have x0 := kx.x0; have x1 := kx.x1; have x2 := kx.x2; have x3 := kx.x3; have x4 := kx.x4; have x5 := kx.x5; have xf := kx.fz; have xl := kx.lt; clear kx) | skip))
                      | (go_at_call 12; (with_reducible refine (CB.out _ (by first | (with_reducible exact cur.out.old) | (with_reducible exact F1.out.old) | (with_reducible exact cur.out.a1 _))).mono ?_); rintro e u1 ⟨rfl, hB1⟩; (first | (with_reducible (replace cur := Lib.hid (cur.out.below hB1))) | (with_reducible (replace cur := Lib.hid (cur.out.one.below hB1))) | (with_reducible (replace cur := Lib.hid (F1.out.below hB1)))); clear hB1; (first | (have kx := cur.out.first; have x0 := kx.x0; have x1 := kx.x1; have x2 := kx.x2; have x3 := kx.x3; have x4 := kx.x4; have x5 := kx.x5; have xf := kx.fz; have xl := kx.lt; clear kx) | skip))
                      | (go_at_call 13; (with_reducible refine (CM.out _ (by first | (with_reducible exact cur.out.old) | (with_reducible exact F1.out.old) | (with_reducible exact cur.out.a1 _))).mono ?_); rintro e u2 ⟨ga, Aa, ma, ca, za, ea, gb, Ab, mb, cb, zb, eb, rfl, hma, hmb, hla, hlb, hba, hbb, hB2, hQ⟩; (first | (with_reducible (replace cur := Lib.hid (cur.out.below hB2))) | (with_reducible (replace cur := Lib.hid (cur.out.one.below hB2))) | (with_reducible (replace cur := Lib.hid (F1.out.below hB2)))); have L2 : Hid (Lim u2 Aa ma ca za ∧ Lim u2 Ab mb cb zb ∧ Bare za ∧ Bare zb ∧ ((Sp 9000 ⟨ga, val za, ea⟩ ∧ Sp 9000 ⟨gb, val zb, eb⟩) ∧ dwD ⟨ga, val za, ea⟩ * (uK : Int) = lo4 (dwD d3) (dwD d4) (dwD d1) (dwD d2) ∧ dwD ⟨gb, val zb, eb⟩ * (uK : Int) = hi4 (dwD d3) (dwD d4) (dwD d1) (dwD d2))) := ⟨hla, hlb, hba, hbb, hQ⟩; clear hla hlb hba hbb hQ hB2; (first | (have kx := cur.out.first; have x0 := kx.x0; have x1 := kx.x1; have x2 := kx.x2; have x3 := kx.x3; have x4 := kx.x4; have x5 := kx.x5; have xf := kx.fz; have xl := kx.lt; clear kx) | skip)))
                  all_goals (go_wp2_with fail)
                  all_goals go_meet
                  all_goals (refine ⟨_, ga, Aa, ma, ca, za, ea, gb, Ab, mb, cb, zb, eb, rfl, rfl, hma, hmb, ?_⟩)
                  all_goals (first
                    | (have t := RelI.last (e1 := ea) (g1 := ga) (e2 := eb) (g2 := gb) cur.out L2.out.1 L2.out.2.1; have t2 := And.intro t L2.out.2.2; (with_reducible exact Lib.hid t2))
                    | (have t := RelI.ahead (e1 := ea) (g1 := ga) (e2 := eb) (g2 := gb) cur.out L2.out.1 L2.out.2.1; have t2 := And.intro t L2.out.2.2; (with_reducible exact Lib.hid t2)))
                case rest =>
                  clear cur F1 KEEP CA CB CM
                  obtain ⟨ux13, rfl⟩ : ∃ u, u = wc := ⟨_, rfl⟩
                  obtain ⟨pl, gla, Ala, mla, cla, sla, ela, glb, Alb, mlb, clb, slb, elb, rfl, rfl, hmla, hmlb, HRx⟩ := hcut
                  have hB := HRx.out.1.1
                  replace HT : Hid (Tab ux13) := HT.out.below hB
                  replace H1 : Hid (Lim ux13 A1 n1 c1 xs1) := H1.out.below hB
                  replace H2 : Hid (Lim ux13 A2 n2 c2 xs2) := H2.out.below hB
                  replace H3 : Hid (Lim ux13 A3 n3 c3 xs3) := H3.out.below hB
                  replace H4 : Hid (Lim ux13 A4 n4 c4 xs4) := H4.out.below hB
                  replace Ja : Hid (Jb ux13 w.heap.size g1 A1 n1 c1 e1 g2 A2 n2 c2 e2) := Ja.out.below hB
                  replace Jk : Hid (Jb ux13 (w.heap.size + 1) g3 A3 n3 c3 e3 g4 A4 n4 c4 e4) := Jk.out.below hB
                  replace HX : Hid (Bd ux13 px 36 x.neg Ax mx cx x.e) := HX.out.below hB
                  replace HXl : Hid (Lim ux13 Ax mx cx sx) := HXl.out.below hB
                  replace HLs : Hid (Lim ux13 As ms cs ss) := HLs.out.below hB
                  replace HNs : Hid (Bd ux13 w9.heap.size 36 s.neg As ms cs s.e) := HNs.out.below hB
                  replace HLp : Hid (Lim ux13 Ap mp cp sp) := HLp.out.below hB
                  replace HNp : Hid (Bd ux13 w10.heap.size 36 p.neg Ap mp cp p.e) := HNp.out.below hB
                  replace HIi : Hid (Ib ux13 pi gia Aia mia cia eia gib Aib mib cib eib) := HIi.out.below hB
                  replace HLi : Hid (Lim ux13 Aia mia cia sia) := HLi.out.below hB
                  replace HHi : Hid (Lim ux13 Aib mib cib sib) := HHi.out.below hB
                  replace HIk : Hid (Ib ux13 pk gka Aka mka cka eka gkb Akb mkb ckb ekb) := HIk.out.below hB
                  replace HLk : Hid (Lim ux13 Aka mka cka ska) := HLk.out.below hB
                  replace HHk : Hid (Lim ux13 Akb mkb ckb skb) := HHk.out.below hB
                  replace HS := Lib.hid (HS.out.trans (hB.mono HS.out.size))
                  have HIl : Hid (Ib ux13 pl gla Ala mla cla ela glb Alb mlb clb elb) := HRx.out.1.2.1
                  have HLl : Hid (Lim ux13 Ala mla cla sla) := HRx.out.1.2.2.1
                  have HHl : Hid (Lim ux13 Alb mlb clb slb) := HRx.out.1.2.2.2.1
                  have HQl : Hid (Bare sla ∧ Bare slb ∧ ((Sp 9000 ⟨gla, val sla, ela⟩ ∧ Sp 9000 ⟨glb, val slb, elb⟩) ∧ dwD ⟨gla, val sla, ela⟩ * (uK : Int) = lo4 (dwD d3) (dwD d4) (dwD d1) (dwD d2) ∧ dwD ⟨glb, val slb, elb⟩ * (uK : Int) = hi4 (dwD d3) (dwD d4) (dwD d1) (dwD d2))) := HRx.out.2
                  clear HRx hB
                  clear HM O0 O1 O2 O3
                  have Nka : Hid (Nm 9000 gka (val ska) eka ⟨gka, val ska, eka⟩) := nm_eq rfl HQk.out.2.2.1.1
                  have Nkb : Hid (Nm 9000 gkb (val skb) ekb ⟨gkb, val skb, ekb⟩) := nm_eq rfl HQk.out.2.2.1.2
                  have Nla : Hid (Nm 9000 gla (val sla) ela ⟨gla, val sla, ela⟩) := nm_eq rfl HQl.out.2.2.1.1
                  have Nlb : Hid (Nm 9000 glb (val slb) elb ⟨glb, val slb, elb⟩) := nm_eq rfl HQl.out.2.2.1.2
                  have R1 := of_decide_eq_true Rv1.out
                  have R2 := of_decide_eq_true Rv2.out
                  rw [N1.out.2.2, N2.out.2.2] at R1
                  rw [N3.out.2.2, N4.out.2.2] at R2
                  have E1 := SI.out.2.1
                  have E2 := SI.out.2.2
                  have E3 := SS.out.2
                  have X1 := WX.out
                  have Y1 := WY.out
                  have F1 : Hid (dwD s1 ≤ dwD t1 ∧ dwD s1 ≤ dwD s ∧ dwD s ≤ dwD t1) := ⟨by omega, by omega, by omega⟩
                  have fh := four_has X1.1 X1.2 Y1.1 Y1.2
                  have fo := four_order R1 R2
                  have ft := four_turn (dwD d1) (dwD d2) (dwD d3) (dwD d4)
                  have F2 : Hid (dwD ⟨gka, val ska, eka⟩ ≤ dwD ⟨gkb, val skb, ekb⟩ ∧ dwD ⟨gka, val ska, eka⟩ ≤ dwD p ∧ dwD p ≤ dwD ⟨gkb, val skb, ekb⟩) := ⟨(le_of_K uK_pos).2 (by rw [HQk.out.2.2.2.1, HQk.out.2.2.2.2]; exact fo), (le_of_K uK_pos).2 (by rw [HQk.out.2.2.2.1, SPp.out.2]; exact fh.1), (le_of_K uK_pos).2 (by rw [HQk.out.2.2.2.2, SPp.out.2]; exact fh.2)⟩
                  have F3 : Hid (dwD ⟨gka, val ska, eka⟩ = dwD ⟨gla, val sla, ela⟩ ∧ dwD ⟨gkb, val skb, ekb⟩ = dwD ⟨glb, val slb, elb⟩) := ⟨Int.eq_of_mul_eq_mul_right (Int.ne_of_gt uK_pos) (by rw [HQk.out.2.2.2.1, HQl.out.2.2.2.1]; exact ft.1.symm), Int.eq_of_mul_eq_mul_right (Int.ne_of_gt uK_pos) (by rw [HQk.out.2.2.2.2, HQl.out.2.2.2.2]; exact ft.2.symm)⟩
                  clear R1 R2 E1 E2 E3 X1 Y1 fh fo ft
                  have CH3 : Hid (∀ vv, Below ux13.heap.size ux13 vv → Calls Tryd.prog 17 #[.agg #[.bool gia, .slice Aia mia cia, .int .i64 eia, .bool gib, .slice Aib mib cib, .int .i64 eib], .agg #[.bool s.neg, .slice As ms cs, .int .i64 s.e]] vv (fun e w' => e = .returned (.bool true) ∧ Below vv.heap.size vv w')) := fun vv hs => ihas_l true true true s1 t1 s gia Aia mia cia sia eia gib Aib mib cib sib eib s.neg As ms cs ss s.e vv (HLi.out.below hs) (by omega) (HHi.out.below hs) (by omega) (HLs.out.below hs) (by omega) (HT.out.below hs) (Lib.hid NI.out.1.1) (Lib.hid NI.out.2.1) (Lib.hid NS.out.1) (decide_eq_true (by rw [NI.out.1.2.2, NI.out.2.2.2]; exact F1.out.1)) (decide_eq_true (by rw [NI.out.1.2.2, NS.out.2.2]; exact F1.out.2.1)) (decide_eq_true (by rw [NS.out.2.2, NI.out.2.2.2]; exact F1.out.2.2))
                  have CH4 : Hid (∀ vv, Below ux13.heap.size ux13 vv → Calls Tryd.prog 17 #[.agg #[.bool gka, .slice Aka mka cka, .int .i64 eka, .bool gkb, .slice Akb mkb ckb, .int .i64 ekb], .agg #[.bool p.neg, .slice Ap mp cp, .int .i64 p.e]] vv (fun e w' => e = .returned (.bool true) ∧ Below vv.heap.size vv w')) := fun vv hs => ihas_l true true true ⟨gka, val ska, eka⟩ ⟨gkb, val skb, ekb⟩ p gka Aka mka cka ska eka gkb Akb mkb ckb skb ekb p.neg Ap mp cp sp p.e vv (HLk.out.below hs) (by omega) (HHk.out.below hs) (by omega) (HLp.out.below hs) (by omega) (HT.out.below hs) (Lib.hid Nka.out.1) (Lib.hid Nkb.out.1) (Lib.hid NP.out.1) (decide_eq_true (by rw [Nka.out.2.2, Nkb.out.2.2]; exact F2.out.1)) (decide_eq_true (by rw [Nka.out.2.2, NP.out.2.2]; exact F2.out.2.1)) (decide_eq_true (by rw [NP.out.2.2, Nkb.out.2.2]; exact F2.out.2.2))
                  have CC1 : Hid (∀ s, Below ux13.heap.size ux13 s → Calls Tryd.prog 25 #[.agg #[.bool gka, .slice Aka mka cka, .int .i64 eka], .agg #[.bool gla, .slice Ala mla cla, .int .i64 ela]] s (fun e w' => e = .returned (.int .i64 0) ∧ Below s.heap.size s w')) := fun s hs => dcmp_l 0 gka Aka mka cka ska eka gla Ala mla cla sla ela s (HLk.out.below hs) (HLl.out.below hs) (by omega) (by omega) (HT.out.below hs) (cmpI_eq F3.out.1)
                  have CC2 : Hid (∀ s, Below ux13.heap.size ux13 s → Calls Tryd.prog 25 #[.agg #[.bool gkb, .slice Akb mkb ckb, .int .i64 ekb], .agg #[.bool glb, .slice Alb mlb clb, .int .i64 elb]] s (fun e w' => e = .returned (.int .i64 0) ∧ Below s.heap.size s w')) := fun s hs => dcmp_l 0 gkb Akb mkb ckb skb ekb glb Alb mlb clb slb elb s (HHk.out.below hs) (HHl.out.below hs) (by omega) (by omega) (HT.out.below hs) (cmpI_eq F3.out.2)
                  have CT : Hid (∀ s, Below ux13.heap.size ux13 s → Calls Tryd.prog 30 #[.agg #[.bool x.neg, .slice Ax mx cx, .int .i64 x.e]] s (UTold s (fun X Y => X = x ∧ Y = x))) := fun s hs => at15_l x x.neg Ax mx cx sx x.e s (HXl.out.below hs) (by omega) (HT.out.below hs) (Lib.hid NX.out.1)
                  have CA : Hid (∀ s, Below ux13.heap.size ux13 s → Calls Tryd.prog 12 #[.agg #[.bool g1, .slice A1 n1 c1, .int .i64 e1, .bool g2, .slice A2 n2 c2, .int .i64 e2]] s (fun e w' => e = .returned (.agg #[.bool g1, .slice A1 n1 c1, .int .i64 e1, .bool g2, .slice A2 n2 c2, .int .i64 e2]) ∧ Below s.heap.size s w')) := fun s _ => of15_l g1 A1 n1 c1 e1 g2 A2 n2 c2 e2 s
                  have r12 := of_decide_eq_true Rv1.out
                  rw [N1.out.2.2, N2.out.2.2] at r12
                  have R12 := Lib.hid r12
                  clear r12
                  have CI : Hid (∀ s gy A m c zs ey gz A' m' c' us ez, (Lim s A m c zs ∧ Lim s A' m' c' us ∧ m ≤ 100000 ∧ m' ≤ 100000 ∧ (⟨gy, val zs, ey⟩ : Dy) = x ∧ (⟨gz, val us, ez⟩ : Dy) = x) → Below ux13.heap.size ux13 s → Calls Tryd.prog 18 #[.agg #[.bool gy, .slice A m c, .int .i64 ey, .bool gz, .slice A' m' c', .int .i64 ez], .agg #[.bool g1, .slice A1 n1 c1, .int .i64 e1, .bool g2, .slice A2 n2 c2, .int .i64 e2]] s (fun e w' => e = .returned (.bool true) ∧ Below s.heap.size s w')) := fun s gy A m c zs ey gz A' m' c' us ez h hs => by
                    have Na := nm_eq h.2.2.2.2.1 NX.out.2.1
                    have Nb := nm_eq h.2.2.2.2.2 NX.out.2.1
                    exact iinside_l true true true true true true x x d1 d2 gy A m c zs ey gz A' m' c' us ez g1 A1 n1 c1 xs1 e1 g2 A2 n2 c2 xs2 e2 s h.1 h.2.2.1 h.2.1 h.2.2.2.1 (H1.out.below hs) (by omega) (H2.out.below hs) (by omega) (HT.out.below hs) (Lib.hid Na.1) (Lib.hid Nb.1) (Lib.hid N1.out.1) (Lib.hid N2.out.1) (decide_eq_true (by rw [Na.2.2, Nb.2.2]; exact Int.le_refl _)) (decide_eq_true (by rw [N1.out.2.2, N2.out.2.2]; exact R12.out)) (decide_eq_true (by rw [N1.out.2.2, Na.2.2]; exact WX.out.1)) (decide_eq_true (by rw [Na.2.2, N2.out.2.2]; exact WX.out.2)) (decide_eq_true (by rw [N1.out.2.2, Nb.2.2]; exact WX.out.1)) (decide_eq_true (by rw [Nb.2.2, N2.out.2.2]; exact WX.out.2))
                  have KEEP : Hid (∀ v, Below ux13.heap.size ux13 v → v.cell? ⟨w.heap.size, 0, none⟩ = some (.bool g1) ∧ v.cell? ⟨w.heap.size, 1, none⟩ = some (.slice A1 n1 c1) ∧ v.cell? ⟨w.heap.size, 2, none⟩ = some (.int .i64 e1) ∧ v.cell? ⟨w.heap.size, 3, none⟩ = some (.bool g2) ∧ v.cell? ⟨w.heap.size, 4, none⟩ = some (.slice A2 n2 c2) ∧ v.cell? ⟨w.heap.size, 5, none⟩ = some (.int .i64 e2) ∧ v.cell? ⟨px, 0, none⟩ = some (.bool x.neg) ∧ v.cell? ⟨px, 1, none⟩ = some (.slice Ax mx cx) ∧ v.cell? ⟨px, 2, none⟩ = some (.int .i64 x.e) ∧ v.cell? ⟨w9.heap.size, 0, none⟩ = some (.bool s.neg) ∧ v.cell? ⟨w9.heap.size, 1, none⟩ = some (.slice As ms cs) ∧ v.cell? ⟨w9.heap.size, 2, none⟩ = some (.int .i64 s.e) ∧ v.cell? ⟨w10.heap.size, 0, none⟩ = some (.bool p.neg) ∧ v.cell? ⟨w10.heap.size, 1, none⟩ = some (.slice Ap mp cp) ∧ v.cell? ⟨w10.heap.size, 2, none⟩ = some (.int .i64 p.e) ∧ v.cell? ⟨pi, 0, none⟩ = some (.bool gia) ∧ v.cell? ⟨pi, 1, none⟩ = some (.slice Aia mia cia) ∧ v.cell? ⟨pi, 2, none⟩ = some (.int .i64 eia) ∧ v.cell? ⟨pi, 3, none⟩ = some (.bool gib) ∧ v.cell? ⟨pi, 4, none⟩ = some (.slice Aib mib cib) ∧ v.cell? ⟨pi, 5, none⟩ = some (.int .i64 eib) ∧ v.cell? ⟨pk, 0, none⟩ = some (.bool gka) ∧ v.cell? ⟨pk, 1, none⟩ = some (.slice Aka mka cka) ∧ v.cell? ⟨pk, 2, none⟩ = some (.int .i64 eka) ∧ v.cell? ⟨pk, 3, none⟩ = some (.bool gkb) ∧ v.cell? ⟨pk, 4, none⟩ = some (.slice Akb mkb ckb) ∧ v.cell? ⟨pk, 5, none⟩ = some (.int .i64 ekb) ∧ v.cell? ⟨pl, 0, none⟩ = some (.bool gla) ∧ v.cell? ⟨pl, 1, none⟩ = some (.slice Ala mla cla) ∧ v.cell? ⟨pl, 2, none⟩ = some (.int .i64 ela) ∧ v.cell? ⟨pl, 3, none⟩ = some (.bool glb) ∧ v.cell? ⟨pl, 4, none⟩ = some (.slice Alb mlb clb) ∧ v.cell? ⟨pl, 5, none⟩ = some (.int .i64 elb)) := fun v hv => ⟨(Ja.out.below hv).x0, (Ja.out.below hv).x1, (Ja.out.below hv).x2, (Ja.out.below hv).x3, (Ja.out.below hv).x4, (Ja.out.below hv).x5, (HX.out.below hv).c0, (HX.out.below hv).c1, (HX.out.below hv).c2, (HNs.out.below hv).c0, (HNs.out.below hv).c1, (HNs.out.below hv).c2, (HNp.out.below hv).c0, (HNp.out.below hv).c1, (HNp.out.below hv).c2, (HIi.out.below hv).x0, (HIi.out.below hv).x1, (HIi.out.below hv).x2, (HIi.out.below hv).x3, (HIi.out.below hv).x4, (HIi.out.below hv).x5, (HIk.out.below hv).x0, (HIk.out.below hv).x1, (HIk.out.below hv).x2, (HIk.out.below hv).x3, (HIk.out.below hv).x4, (HIk.out.below hv).x5, (HIl.out.below hv).x0, (HIl.out.below hv).x1, (HIl.out.below hv).x2, (HIl.out.below hv).x3, (HIl.out.below hv).x4, (HIl.out.below hv).x5⟩
                  have cur : Hid (Below ux13.heap.size ux13 ux13.drew) := below_drew _
                  go_wp2_with fail
                  go_region_held3 (fun v => v.cell? ⟨w.heap.size, 0, none⟩ = some (.bool g1) ∧ v.cell? ⟨w.heap.size, 1, none⟩ = some (.slice A1 n1 c1) ∧ v.cell? ⟨w.heap.size, 2, none⟩ = some (.int .i64 e1) ∧ v.cell? ⟨w.heap.size, 3, none⟩ = some (.bool g2) ∧ v.cell? ⟨w.heap.size, 4, none⟩ = some (.slice A2 n2 c2) ∧ v.cell? ⟨w.heap.size, 5, none⟩ = some (.int .i64 e2) ∧ v.cell? ⟨px, 0, none⟩ = some (.bool x.neg) ∧ v.cell? ⟨px, 1, none⟩ = some (.slice Ax mx cx) ∧ v.cell? ⟨px, 2, none⟩ = some (.int .i64 x.e) ∧ v.cell? ⟨w9.heap.size, 0, none⟩ = some (.bool s.neg) ∧ v.cell? ⟨w9.heap.size, 1, none⟩ = some (.slice As ms cs) ∧ v.cell? ⟨w9.heap.size, 2, none⟩ = some (.int .i64 s.e) ∧ v.cell? ⟨w10.heap.size, 0, none⟩ = some (.bool p.neg) ∧ v.cell? ⟨w10.heap.size, 1, none⟩ = some (.slice Ap mp cp) ∧ v.cell? ⟨w10.heap.size, 2, none⟩ = some (.int .i64 p.e) ∧ v.cell? ⟨pi, 0, none⟩ = some (.bool gia) ∧ v.cell? ⟨pi, 1, none⟩ = some (.slice Aia mia cia) ∧ v.cell? ⟨pi, 2, none⟩ = some (.int .i64 eia) ∧ v.cell? ⟨pi, 3, none⟩ = some (.bool gib) ∧ v.cell? ⟨pi, 4, none⟩ = some (.slice Aib mib cib) ∧ v.cell? ⟨pi, 5, none⟩ = some (.int .i64 eib) ∧ v.cell? ⟨pk, 0, none⟩ = some (.bool gka) ∧ v.cell? ⟨pk, 1, none⟩ = some (.slice Aka mka cka) ∧ v.cell? ⟨pk, 2, none⟩ = some (.int .i64 eka) ∧ v.cell? ⟨pk, 3, none⟩ = some (.bool gkb) ∧ v.cell? ⟨pk, 4, none⟩ = some (.slice Akb mkb ckb) ∧ v.cell? ⟨pk, 5, none⟩ = some (.int .i64 ekb) ∧ v.cell? ⟨pl, 0, none⟩ = some (.bool gla) ∧ v.cell? ⟨pl, 1, none⟩ = some (.slice Ala mla cla) ∧ v.cell? ⟨pl, 2, none⟩ = some (.int .i64 ela) ∧ v.cell? ⟨pl, 3, none⟩ = some (.bool glb) ∧ v.cell? ⟨pl, 4, none⟩ = some (.slice Alb mlb clb) ∧ v.cell? ⟨pl, 5, none⟩ = some (.int .i64 elb)) (with_reducible exact KEEP.out _ cur.out)
                    (first
                      | (go_at_call 17; (with_reducible refine (CH3.out _ cur.out).mono ?_); rintro e u1 ⟨rfl, hB1⟩; replace cur := Lib.hid (cur.out.trans (hB1.mono cur.out.size)); clear hB1)
                      | (go_at_call 17; (with_reducible refine (CH4.out _ cur.out).mono ?_); rintro e u1 ⟨rfl, hB1⟩; replace cur := Lib.hid (cur.out.trans (hB1.mono cur.out.size)); clear hB1)
                      | (go_at_call 25; (with_reducible refine (CC1.out _ cur.out).mono ?_); rintro e u1 ⟨rfl, hB1⟩; replace cur := Lib.hid (cur.out.trans (hB1.mono cur.out.size)); clear hB1)
                      | (go_at_call 25; (with_reducible refine (CC2.out _ cur.out).mono ?_); rintro e u1 ⟨rfl, hB1⟩; replace cur := Lib.hid (cur.out.trans (hB1.mono cur.out.size)); clear hB1)
                      | (go_at_call 12; (with_reducible refine (CA.out _ cur.out).mono ?_); rintro e u1 ⟨rfl, hB1⟩; replace cur := Lib.hid (cur.out.trans (hB1.mono cur.out.size)); (first | (have la := LA.out; replace LA := Lib.hid (And.intro (la.1.below hB1) (And.intro (la.2.1.below hB1) la.2.2)); clear la) | skip); clear hB1)
                      | (go_at_call 30; (with_reducible refine (CT.out _ cur.out).mono ?_); rintro e u1 ⟨gy, Az, mz, cz, zz, ey, gz, Aq, mq, cq, uq, ez, rfl, hmz, hmq, hlz, hlq, hbz, hbq, hB1, hQ⟩; replace cur := Lib.hid (cur.out.trans (hB1.mono cur.out.size)); have LA : Hid (Lim u1 Az mz cz zz ∧ Lim u1 Aq mq cq uq ∧ mz ≤ 100000 ∧ mq ≤ 100000 ∧ (⟨gy, val zz, ey⟩ : Dy) = x ∧ (⟨gz, val uq, ez⟩ : Dy) = x) := ⟨hlz, hlq, hmz, hmq, hQ.1, hQ.2⟩; clear hlz hlq hbz hbq hQ hB1)
                      | (go_at_call 18; (with_reducible refine (CI.out _ _ _ _ _ _ _ _ _ _ _ _ _ LA.out cur.out).mono ?_); rintro e u1 ⟨rfl, hB1⟩; replace cur := Lib.hid (cur.out.trans (hB1.mono cur.out.size)); clear LA hB1))
                  all_goals (
                    have Hfin := Lib.hid (HS.out.trans (cur.out.mono HS.out.size))
                    clear HS cur KEEP CH3 CH4 CC1 CC2 CT CA CI F1 F2 F3 R12 NI Nka Nkb Nla Nlb NS NP NX HQk HQl SI SS SPp WX WY N1 N2 N3 N4 NA NB Rv1 Rv2 HT H1 H2 H3 H4 Ja Jk HX HXl HLs HNs HLp HNp HIi HLi HHi HIk HLk HHk HIl HLl HHl
                    go_wp2
                    go_ret
                    exact ⟨rfl, Hfin.out⟩)
end Go.Proofs.YtnkbdjbcfkflpaaDoor
