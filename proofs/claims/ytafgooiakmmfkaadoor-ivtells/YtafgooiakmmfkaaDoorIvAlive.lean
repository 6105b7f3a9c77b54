/- The walk of planimeterlaw15.alive (written by law_iv5.py). -/
import Derived.Test.YtafgooiakmmfkaaDoorIvMulP
import Derived.Test.YtafgooiakmmfkaaDoorTwoU
import Derived.Test.YtafgooiakmmfkaaDoorNegOf
namespace Go.Proofs.YtafgooiakmmfkaaDoor
open Go.RowKit

theorem mki_1n : mk true 1 0 = some ⟨true, 1, 0⟩ := by rfl
theorem mki_1 : mk false 1 0 = some ⟨false, 1, 0⟩ := by rfl
theorem mki_2 : mk false 2 0 = some ⟨false, 1, 1⟩ := by rfl
theorem mki_3 : mk false 3 0 = some ⟨false, 3, 0⟩ := by rfl
theorem mki_4 : mk false 4 0 = some ⟨false, 1, 2⟩ := by rfl
theorem mki_8 : mk false 8 0 = some ⟨false, 1, 3⟩ := by rfl
theorem mki_6 : mk false 6 0 = some ⟨false, 3, 1⟩ := by rfl
theorem mki_3n : mk true 3 0 = some ⟨true, 3, 0⟩ := by rfl
theorem mki_4n : mk true 4 0 = some ⟨true, 1, 2⟩ := by rfl
theorem dwi {g : Bool} {N : Nat} {d : Dy} (h : mk g N 0 = some d) : dwD d = if g then -((N : Int) * (uK : Int)) else (N : Int) * (uK : Int) := by
  have e : dwD d = dw g N 0 := (mk_fine h).2.1
  rw [e]
  cases g
  · exact dw_whole N
  · exact dw_wholeN N
theorem alive_prod {X Y : Dy} (h : MulV ⟨true, 3, 0⟩ ⟨true, 1, 2⟩ ⟨false, 3, 1⟩ ⟨false, 1, 3⟩ X Y) : dwD X = dw true 1 2 ∧ dwD Y = dw false 1 3 := by
  have k := uK_pos
  have a := dwi mki_3n
  have b := dwi mki_4n
  have c := dwi mki_6
  have d := dwi mki_8
  have e1 : dw true 1 2 = dwD ⟨true, 1, 2⟩ := rfl
  have e2 : dw false 1 3 = dwD ⟨false, 1, 3⟩ := rfl
  obtain ⟨_, _, h1, h2⟩ := h
  rw [e1, e2, h1, h2, a, b, c, d]
  simp only [↓reduceIte, Bool.false_eq_true]
  omega
theorem two_one : decide (dw false 1 1 ≤ dw false 1 0) = false := by
  have k := uK_pos
  have a := dwi mki_2
  have b := dwi mki_1
  have e1 : dw false 1 1 = dwD ⟨false, 1, 1⟩ := rfl
  have e2 : dw false 1 0 = dwD ⟨false, 1, 0⟩ := rfl
  refine decide_eq_false ?_
  rw [e1, e2, a, b]
  simp only [↓reduceIte, Bool.false_eq_true]
  omega
theorem in_order_a : decide (dw true 1 0 ≤ dw false 1 1) = true ∧ decide (dw false 3 0 ≤ dw false 1 2) = true := by
  have k := uK_pos
  have a := dwi mki_1n
  have b := dwi mki_2
  have c := dwi mki_3
  have d := dwi mki_4
  have e1 : dw true 1 0 = dwD ⟨true, 1, 0⟩ := rfl
  have e2 : dw false 1 1 = dwD ⟨false, 1, 1⟩ := rfl
  have e3 : dw false 3 0 = dwD ⟨false, 3, 0⟩ := rfl
  have e4 : dw false 1 2 = dwD ⟨false, 1, 2⟩ := rfl
  constructor
  · refine decide_eq_true ?_
    rw [e1, e2, a, b]
    simp only [↓reduceIte, Bool.false_eq_true]
    omega
  · refine decide_eq_true ?_
    rw [e3, e4, c, d]
    simp only [↓reduceIte, Bool.false_eq_true]
    omega

set_option maxHeartbeats 4000000 in
set_option maxRecDepth 20000 in
theorem ivalive_any (w : World) (hT : Tab w) : Calls Tryd.prog 7 #[] w fun e w' => e = .returned (.bool true) ∧ Below w.heap.size w w' := by
  have HT := Lib.hid hT
  have HS := Lib.hid (Below.refl w.heap.size w)
  clear hT
  go_enter Tryd.func7, Tryd.ntmps7
  have O := Lib.hid (dof_neg 1 (by decide) (by decide) true 1 0 w HT.out (by rfl))
  go_wp2_with fail
  refine O.out.mono ?_
  rintro e w1 ⟨A1, m1, c1, d1, rfl, hm1, hl1, hb1, hv1, hB⟩
  replace HT : Hid (Tab w1) := HT.out.below hB
  replace HS := Lib.hid (HS.out.trans (hB.mono HS.out.size))
  have HA : Hid (Lim w1 A1 m1 c1 d1) := hl1
  have HAv : Hid (Bare d1 ∧ val d1 = 1) := ⟨hb1, hv1⟩
  clear hl1 hb1 hv1 hB O
  have O := Lib.hid (dof_nat 2 (by decide) false 1 1 w1 HT.out (by rfl))
  go_wp2_with fail
  refine O.out.mono ?_
  rintro e w2 ⟨A2, m2, c2, d2, rfl, hm2, hl2, hb2, hv2, hB⟩
  replace HT : Hid (Tab w2) := HT.out.below hB
  replace HA : Hid (Lim w2 A1 m1 c1 d1) := HA.out.below hB
  replace HS := Lib.hid (HS.out.trans (hB.mono HS.out.size))
  have HB : Hid (Lim w2 A2 m2 c2 d2) := hl2
  have HBv : Hid (Bare d2 ∧ val d2 = 1) := ⟨hb2, hv2⟩
  clear hl2 hb2 hv2 hB O
  have O := Lib.hid (dof_nat 3 (by decide) false 3 0 w2 HT.out (by rfl))
  go_wp2_with fail
  refine O.out.mono ?_
  rintro e w3 ⟨A3, m3, c3, d3, rfl, hm3, hl3, hb3, hv3, hB⟩
  replace HT : Hid (Tab w3) := HT.out.below hB
  replace HA : Hid (Lim w3 A1 m1 c1 d1) := HA.out.below hB
  replace HB : Hid (Lim w3 A2 m2 c2 d2) := HB.out.below hB
  replace HS := Lib.hid (HS.out.trans (hB.mono HS.out.size))
  have HC : Hid (Lim w3 A3 m3 c3 d3) := hl3
  have HCv : Hid (Bare d3 ∧ val d3 = 3) := ⟨hb3, hv3⟩
  clear hl3 hb3 hv3 hB O
  have O := Lib.hid (dof_nat 4 (by decide) false 1 2 w3 HT.out (by rfl))
  go_wp2_with fail
  refine O.out.mono ?_
  rintro e w4 ⟨A4, m4, c4, d4, rfl, hm4, hl4, hb4, hv4, hB⟩
  replace HT : Hid (Tab w4) := HT.out.below hB
  replace HA : Hid (Lim w4 A1 m1 c1 d1) := HA.out.below hB
  replace HB : Hid (Lim w4 A2 m2 c2 d2) := HB.out.below hB
  replace HC : Hid (Lim w4 A3 m3 c3 d3) := HC.out.below hB
  replace HS := Lib.hid (HS.out.trans (hB.mono HS.out.size))
  have HD : Hid (Lim w4 A4 m4 c4 d4) := hl4
  have HDv : Hid (Bare d4 ∧ val d4 = 1) := ⟨hb4, hv4⟩
  clear hl4 hb4 hv4 hB O
  have K := ivmul_yes ⟨true, 3, 0⟩ ⟨true, 1, 2⟩ ⟨false, 3, 1⟩ ⟨false, 1, 3⟩ ⟨true, 1, 0⟩ ⟨false, 1, 1⟩ ⟨false, 3, 0⟩ ⟨false, 1, 2⟩ true A1 m1 c1 d1 0 false A2 m2 c2 d2 1 false A3 m3 c3 d3 0 false A4 m4 c4 d4 2 w4 HA.out (by omega) HB.out (by omega) HC.out (by omega) HD.out (by omega) HT.out (by rw [HAv.out.2]; rfl) (by rw [HBv.out.2]; rfl) (by rw [HCv.out.2]; rfl) (by rw [HDv.out.2]; rfl) (by rw [HAv.out.2, HBv.out.2]; exact in_order_a.1) (by rw [HCv.out.2, HDv.out.2]; exact in_order_a.2) (by rw [HAv.out.2, HCv.out.2]; rfl) (by rw [HAv.out.2, HDv.out.2]; rfl) (by rw [HBv.out.2, HCv.out.2]; rfl) (by rw [HBv.out.2, HDv.out.2]; rfl)
  replace K := Lib.hid K
  go_wp2_with fail
  refine K.out.mono ?_
  rintro e w5 ⟨g5a, A5a, m5a, c5a, s5a, e5a, g5b, A5b, m5b, c5b, s5b, e5b, r5, rfl, hm5a, hm5b, hl5a, hl5b, hb5a, hb5b, hB, hq⟩
  replace HT : Hid (Tab w5) := HT.out.below hB
  replace HA : Hid (Lim w5 A1 m1 c1 d1) := HA.out.below hB
  replace HB : Hid (Lim w5 A2 m2 c2 d2) := HB.out.below hB
  replace HC : Hid (Lim w5 A3 m3 c3 d3) := HC.out.below hB
  replace HD : Hid (Lim w5 A4 m4 c4 d4) := HD.out.below hB
  replace HS := Lib.hid (HS.out.trans (hB.mono HS.out.size))
  have HLp : Hid (Lim w5 A5a m5a c5a s5a) := hl5a
  have HHp : Hid (Lim w5 A5b m5b c5b s5b) := hl5b
  have HBp : Hid (Bare s5a ∧ Bare s5b) := ⟨hb5a, hb5b⟩
  obtain ⟨rfl, hmv⟩ := id hq
  have HM : Hid (dw g5a (val s5a) e5a = dw true 1 2 ∧ dw g5b (val s5b) e5b = dw false 1 3) := alive_prod hmv
  clear hmv
  clear hl5a hl5b hb5a hb5b hB hq K
  have ba := below1 w5 (.cells #[.bool g5a, .slice A5a m5a c5a, .int .i64 e5a, .bool g5b, .slice A5b m5b c5b, .int .i64 e5b] 38)
  replace HT : Hid (Tab (w5.alloc (.cells #[.bool g5a, .slice A5a m5a c5a, .int .i64 e5a, .bool g5b, .slice A5b m5b c5b, .int .i64 e5b] 38))) := HT.out.below ba
  replace HA : Hid (Lim (w5.alloc (.cells #[.bool g5a, .slice A5a m5a c5a, .int .i64 e5a, .bool g5b, .slice A5b m5b c5b, .int .i64 e5b] 38)) A1 m1 c1 d1) := HA.out.below ba
  replace HB : Hid (Lim (w5.alloc (.cells #[.bool g5a, .slice A5a m5a c5a, .int .i64 e5a, .bool g5b, .slice A5b m5b c5b, .int .i64 e5b] 38)) A2 m2 c2 d2) := HB.out.below ba
  replace HC : Hid (Lim (w5.alloc (.cells #[.bool g5a, .slice A5a m5a c5a, .int .i64 e5a, .bool g5b, .slice A5b m5b c5b, .int .i64 e5b] 38)) A3 m3 c3 d3) := HC.out.below ba
  replace HD : Hid (Lim (w5.alloc (.cells #[.bool g5a, .slice A5a m5a c5a, .int .i64 e5a, .bool g5b, .slice A5b m5b c5b, .int .i64 e5b] 38)) A4 m4 c4 d4) := HD.out.below ba
  replace HLp : Hid (Lim (w5.alloc (.cells #[.bool g5a, .slice A5a m5a c5a, .int .i64 e5a, .bool g5b, .slice A5b m5b c5b, .int .i64 e5b] 38)) A5a m5a c5a s5a) := HLp.out.below ba
  replace HHp : Hid (Lim (w5.alloc (.cells #[.bool g5a, .slice A5a m5a c5a, .int .i64 e5a, .bool g5b, .slice A5b m5b c5b, .int .i64 e5b] 38)) A5b m5b c5b s5b) := HHp.out.below ba
  replace HS := Lib.hid (HS.out.trans (ba.mono HS.out.size))
  clear ba
  have HIp : Hid (Ib (w5.alloc (.cells #[.bool g5a, .slice A5a m5a c5a, .int .i64 e5a, .bool g5b, .slice A5b m5b c5b, .int .i64 e5b] 38)) w5.heap.size g5a A5a m5a c5a e5a g5b A5b m5b c5b e5b) := Ib.new w5 g5a A5a m5a c5a e5a g5b A5b m5b c5b e5b
  clear HA HB HC HD
  clear HAv HBv HCv HDv HBp
  have O := Lib.hid (dof_nat 2 (by decide) false 1 1 (w5.alloc (.cells #[.bool g5a, .slice A5a m5a c5a, .int .i64 e5a, .bool g5b, .slice A5b m5b c5b, .int .i64 e5b] 38)) HT.out (by rfl))
  go_wp2_with fail
  refine O.out.mono ?_
  rintro e w6 ⟨A6, m6, c6, d6, rfl, hm6, hl6, hb6, hv6, hB⟩
  replace HT : Hid (Tab w6) := HT.out.below hB
  replace HLp : Hid (Lim w6 A5a m5a c5a s5a) := HLp.out.below hB
  replace HHp : Hid (Lim w6 A5b m5b c5b s5b) := HHp.out.below hB
  replace HIp : Hid (Ib w6 w5.heap.size g5a A5a m5a c5a e5a g5b A5b m5b c5b e5b) := HIp.out.below hB
  replace HS := Lib.hid (HS.out.trans (hB.mono HS.out.size))
  have HE : Hid (Lim w6 A6 m6 c6 d6) := hl6
  have HEv : Hid (Bare d6 ∧ val d6 = 1) := ⟨hb6, hv6⟩
  clear hl6 hb6 hv6 hB O
  have O := Lib.hid (dof_nat 1 (by decide) false 1 0 w6 HT.out (by rfl))
  go_wp2_with fail
  refine O.out.mono ?_
  rintro e w7 ⟨A7, m7, c7, d7, rfl, hm7, hl7, hb7, hv7, hB⟩
  replace HT : Hid (Tab w7) := HT.out.below hB
  replace HLp : Hid (Lim w7 A5a m5a c5a s5a) := HLp.out.below hB
  replace HHp : Hid (Lim w7 A5b m5b c5b s5b) := HHp.out.below hB
  replace HIp : Hid (Ib w7 w5.heap.size g5a A5a m5a c5a e5a g5b A5b m5b c5b e5b) := HIp.out.below hB
  replace HE : Hid (Lim w7 A6 m6 c6 d6) := HE.out.below hB
  replace HS := Lib.hid (HS.out.trans (hB.mono HS.out.size))
  have HF : Hid (Lim w7 A7 m7 c7 d7) := hl7
  have HFv : Hid (Bare d7 ∧ val d7 = 1) := ⟨hb7, hv7⟩
  clear hl7 hb7 hv7 hB O
  have K := ivadd_no false true ⟨false, 1, 1⟩ ⟨false, 1, 0⟩ ⟨false, 0, 0⟩ ⟨false, 0, 0⟩ false A6 m6 c6 d6 1 false A7 m7 c7 d7 0 false none 0 0 [] 0 false none 0 0 [] 0 w7 HE.out (by omega) HF.out (by omega) (Lim.nil _ _ _) (by decide) (Lim.nil _ _ _) (by decide) HT.out (by rw [HEv.out.2]; rfl) (by rw [HFv.out.2]; rfl) (by rfl) (by rfl) (by rw [HEv.out.2, HFv.out.2]; exact two_one) (decide_eq_true (Int.le_refl _)) rfl
  replace K := Lib.hid K
  go_wp2_with fail
  refine K.out.mono ?_
  rintro e w8 ⟨g8a, A8a, m8a, c8a, s8a, e8a, g8b, A8b, m8b, c8b, s8b, e8b, r8, rfl, hm8a, hm8b, hl8a, hl8b, hb8a, hb8b, hB, hq⟩
  replace HT : Hid (Tab w8) := HT.out.below hB
  replace HLp : Hid (Lim w8 A5a m5a c5a s5a) := HLp.out.below hB
  replace HHp : Hid (Lim w8 A5b m5b c5b s5b) := HHp.out.below hB
  replace HIp : Hid (Ib w8 w5.heap.size g5a A5a m5a c5a e5a g5b A5b m5b c5b e5b) := HIp.out.below hB
  replace HE : Hid (Lim w8 A6 m6 c6 d6) := HE.out.below hB
  replace HF : Hid (Lim w8 A7 m7 c7 d7) := HF.out.below hB
  replace HS := Lib.hid (HS.out.trans (hB.mono HS.out.size))
  have HLs : Hid (Lim w8 A8a m8a c8a s8a) := hl8a
  have HHs : Hid (Lim w8 A8b m8b c8b s8b) := hl8b
  have HBs : Hid (Bare s8a ∧ Bare s8b) := ⟨hb8a, hb8b⟩
  obtain ⟨rfl, h0a, h0b⟩ := id hq
  clear h0a h0b
  clear hl8a hl8b hb8a hb8b hB hq K
  have ba := below1 w8 (.cells #[.bool g8a, .slice A8a m8a c8a, .int .i64 e8a, .bool g8b, .slice A8b m8b c8b, .int .i64 e8b] 38)
  replace HT : Hid (Tab (w8.alloc (.cells #[.bool g8a, .slice A8a m8a c8a, .int .i64 e8a, .bool g8b, .slice A8b m8b c8b, .int .i64 e8b] 38))) := HT.out.below ba
  replace HLp : Hid (Lim (w8.alloc (.cells #[.bool g8a, .slice A8a m8a c8a, .int .i64 e8a, .bool g8b, .slice A8b m8b c8b, .int .i64 e8b] 38)) A5a m5a c5a s5a) := HLp.out.below ba
  replace HHp : Hid (Lim (w8.alloc (.cells #[.bool g8a, .slice A8a m8a c8a, .int .i64 e8a, .bool g8b, .slice A8b m8b c8b, .int .i64 e8b] 38)) A5b m5b c5b s5b) := HHp.out.below ba
  replace HIp : Hid (Ib (w8.alloc (.cells #[.bool g8a, .slice A8a m8a c8a, .int .i64 e8a, .bool g8b, .slice A8b m8b c8b, .int .i64 e8b] 38)) w5.heap.size g5a A5a m5a c5a e5a g5b A5b m5b c5b e5b) := HIp.out.below ba
  replace HE : Hid (Lim (w8.alloc (.cells #[.bool g8a, .slice A8a m8a c8a, .int .i64 e8a, .bool g8b, .slice A8b m8b c8b, .int .i64 e8b] 38)) A6 m6 c6 d6) := HE.out.below ba
  replace HF : Hid (Lim (w8.alloc (.cells #[.bool g8a, .slice A8a m8a c8a, .int .i64 e8a, .bool g8b, .slice A8b m8b c8b, .int .i64 e8b] 38)) A7 m7 c7 d7) := HF.out.below ba
  replace HLs : Hid (Lim (w8.alloc (.cells #[.bool g8a, .slice A8a m8a c8a, .int .i64 e8a, .bool g8b, .slice A8b m8b c8b, .int .i64 e8b] 38)) A8a m8a c8a s8a) := HLs.out.below ba
  replace HHs : Hid (Lim (w8.alloc (.cells #[.bool g8a, .slice A8a m8a c8a, .int .i64 e8a, .bool g8b, .slice A8b m8b c8b, .int .i64 e8b] 38)) A8b m8b c8b s8b) := HHs.out.below ba
  replace HS := Lib.hid (HS.out.trans (ba.mono HS.out.size))
  clear ba
  have HIs : Hid (Ib (w8.alloc (.cells #[.bool g8a, .slice A8a m8a c8a, .int .i64 e8a, .bool g8b, .slice A8b m8b c8b, .int .i64 e8b] 38)) w8.heap.size g8a A8a m8a c8a e8a g8b A8b m8b c8b e8b) := Ib.new w8 g8a A8a m8a c8a e8a g8b A8b m8b c8b e8b
  clear HE HF HIs HLs HHs
  clear HEv HFv HBs
  have cur : Hid (Below (w8.alloc (.cells #[.bool g8a, .slice A8a m8a c8a, .int .i64 e8a, .bool g8b, .slice A8b m8b c8b, .int .i64 e8b] 38)).heap.size (w8.alloc (.cells #[.bool g8a, .slice A8a m8a c8a, .int .i64 e8a, .bool g8b, .slice A8b m8b c8b, .int .i64 e8b] 38)) (w8.alloc (.cells #[.bool g8a, .slice A8a m8a c8a, .int .i64 e8a, .bool g8b, .slice A8b m8b c8b, .int .i64 e8b] 38)).drew) := below_drew _
  have C1 : Hid (∀ v, Below (w8.alloc (.cells #[.bool g8a, .slice A8a m8a c8a, .int .i64 e8a, .bool g8b, .slice A8b m8b c8b, .int .i64 e8b] 38)).heap.size (w8.alloc (.cells #[.bool g8a, .slice A8a m8a c8a, .int .i64 e8a, .bool g8b, .slice A8b m8b c8b, .int .i64 e8b] 38)) v → Calls Tryd.prog 32 #[.int .i64 (-4)] v (Tells1 v true 1 1 2)) := fun v hv => dof_neg 4 (by decide) (by decide) true 1 2 v (HT.out.below hv) (by rfl)
  have C2 : Hid (∀ v, Below (w8.alloc (.cells #[.bool g8a, .slice A8a m8a c8a, .int .i64 e8a, .bool g8b, .slice A8b m8b c8b, .int .i64 e8b] 38)).heap.size (w8.alloc (.cells #[.bool g8a, .slice A8a m8a c8a, .int .i64 e8a, .bool g8b, .slice A8b m8b c8b, .int .i64 e8b] 38)) v → Calls Tryd.prog 32 #[.int .i64 8] v (Tells1 v false 1 1 3)) := fun v hv => dof_nat 8 (by decide) false 1 3 v (HT.out.below hv) (by rfl)
  have C3 : Hid (∀ v A m c es, Below (w8.alloc (.cells #[.bool g8a, .slice A8a m8a c8a, .int .i64 e8a, .bool g8b, .slice A8b m8b c8b, .int .i64 e8b] 38)).heap.size (w8.alloc (.cells #[.bool g8a, .slice A8a m8a c8a, .int .i64 e8a, .bool g8b, .slice A8b m8b c8b, .int .i64 e8b] 38)) v → Lim v A m c es ∧ m ≤ 1 ∧ val es = 1 → Calls Tryd.prog 25 #[.agg #[.bool g5a, .slice A5a m5a c5a, .int .i64 e5a], .agg #[.bool true, .slice A m c, .int .i64 2]] v fun e w' => e = .returned (.int .i64 0) ∧ Below v.heap.size v w') := fun v A m c es hv h => dcmp_l 0 g5a A5a m5a c5a s5a e5a true A m c es 2 v (HLp.out.below hv) h.1 (by omega) (by omega) (HT.out.below hv) (by show _ = _; rw [h.2.2, HM.out.1]; exact cmpI_eq rfl)
  have C4 : Hid (∀ v A m c es, Below (w8.alloc (.cells #[.bool g8a, .slice A8a m8a c8a, .int .i64 e8a, .bool g8b, .slice A8b m8b c8b, .int .i64 e8b] 38)).heap.size (w8.alloc (.cells #[.bool g8a, .slice A8a m8a c8a, .int .i64 e8a, .bool g8b, .slice A8b m8b c8b, .int .i64 e8b] 38)) v → Lim v A m c es ∧ m ≤ 1 ∧ val es = 1 → Calls Tryd.prog 25 #[.agg #[.bool g5b, .slice A5b m5b c5b, .int .i64 e5b], .agg #[.bool false, .slice A m c, .int .i64 3]] v fun e w' => e = .returned (.int .i64 0) ∧ Below v.heap.size v w') := fun v A m c es hv h => dcmp_l 0 g5b A5b m5b c5b s5b e5b false A m c es 3 v (HHp.out.below hv) h.1 (by omega) (by omega) (HT.out.below hv) (by show _ = _; rw [h.2.2, HM.out.2]; exact cmpI_eq rfl)
  have HI0 := HIp
  go_wp2_with fail
  go_region_held3 (fun v => v.cell? ⟨w5.heap.size, 0, none⟩ = some (.bool g5a) ∧ v.cell? ⟨w5.heap.size, 1, none⟩ = some (.slice A5a m5a c5a) ∧ v.cell? ⟨w5.heap.size, 2, none⟩ = some (.int .i64 e5a) ∧ v.cell? ⟨w5.heap.size, 3, none⟩ = some (.bool g5b) ∧ v.cell? ⟨w5.heap.size, 4, none⟩ = some (.slice A5b m5b c5b) ∧ v.cell? ⟨w5.heap.size, 5, none⟩ = some (.int .i64 e5b)) (with_reducible exact HI0.out.all6 cur.out)
    (first
      | (go_at_call 32; (with_reducible refine (C1.out _ cur.out).mono ?_); rintro e v1 ⟨A1, m1, c1, es1, rfl, hm1, hl1, hb1, hv1, hB1⟩; replace cur := Lib.hid (cur.out.trans (hB1.mono cur.out.size)); have L1 : Hid (Lim v1 A1 m1 c1 es1 ∧ m1 ≤ 1 ∧ val es1 = 1) := ⟨hl1, hm1, hv1⟩; clear hl1 hb1 hv1 hB1)
      | (go_at_call 25; (with_reducible refine (C3.out _ _ _ _ _ cur.out L1.out).mono ?_); rintro e v2 ⟨rfl, hB2⟩; replace cur := Lib.hid (cur.out.trans (hB2.mono cur.out.size)); clear L1 hB2)
      | (go_at_call 32; (with_reducible refine (C2.out _ cur.out).mono ?_); rintro e v3 ⟨A3, m3, c3, es3, rfl, hm3, hl3, hb3, hv3, hB3⟩; replace cur := Lib.hid (cur.out.trans (hB3.mono cur.out.size)); have L3 : Hid (Lim v3 A3 m3 c3 es3 ∧ m3 ≤ 1 ∧ val es3 = 1) := ⟨hl3, hm3, hv3⟩; clear hl3 hb3 hv3 hB3)
      | (go_at_call 25; (with_reducible refine (C4.out _ _ _ _ _ cur.out L3.out).mono ?_); rintro e v4 ⟨rfl, hB4⟩; replace cur := Lib.hid (cur.out.trans (hB4.mono cur.out.size)); clear L3 hB4))
  all_goals (
    have Hfin := Lib.hid (HS.out.trans (cur.out.mono HS.out.size))
    clear HS cur C1 C2 C3 C4 HI0 HM HT HLp HHp HIp
    go_wp2
    go_ret
    exact ⟨rfl, Hfin.out⟩)
end Go.Proofs.YtafgooiakmmfkaaDoor
