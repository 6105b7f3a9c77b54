/- IvTells: far numbers' walk, and what the walk of near ones asks (written by law_itfin.py). -/
import Derived.Test.YtafgooiakmmfkaaDoorIvTellW
namespace Go.Proofs.YtafgooiakmmfkaaDoor
open Go.RowKit

set_option maxHeartbeats 16000000 in
set_option maxRecDepth 20000 in
theorem ivtells_far (g1 : Bool) (A1 : Option Addr) (n1 c1 : Nat) (e1 : Int) (g2 : Bool) (A2 : Option Addr) (n2 c2 : Nat) (e2 : Int) (g3 : Bool) (A3 : Option Addr) (n3 c3 : Nat) (e3 : Int) (g4 : Bool) (A4 : Option Addr) (n4 c4 : Nat) (e4 : Int) (g5 : Bool) (A5 : Option Addr) (n5 c5 : Nat) (e5 : Int) (w : World) (hT : Tab w)
    (hno : Hid ((decide (Near15 n1 e1 ∧ Near15 n2 e2) && decide (Near15 n3 e3 ∧ Near15 n4 e4) && decide (Near15 n5 e5 ∧ Near15 n5 e5)) = false)) :
    Calls Tryd.prog 3 #[.agg #[.bool g1, .slice A1 n1 c1, .int .i64 e1, .bool g2, .slice A2 n2 c2, .int .i64 e2], .agg #[.bool g3, .slice A3 n3 c3, .int .i64 e3, .bool g4, .slice A4 n4 c4, .int .i64 e4], .agg #[.bool g5, .slice A5 n5 c5, .int .i64 e5]] w fun e w' => e = .returned (.bool true) ∧ Below w.heap.size w w' := by
  have HT := Lib.hid hT
  have HS := Lib.hid (Below.refl w.heap.size w)
  clear hT
  have ba := below1 w (.cells #[.bool g1, .slice A1 n1 c1, .int .i64 e1, .bool g2, .slice A2 n2 c2, .int .i64 e2] 26)
  replace HT : Hid (Tab (w.alloc (.cells #[.bool g1, .slice A1 n1 c1, .int .i64 e1, .bool g2, .slice A2 n2 c2, .int .i64 e2] 26))) := HT.out.below ba
  replace HS := Lib.hid (HS.out.trans (ba.mono HS.out.size))
  clear ba
  have Ja : Hid (Jb (w.alloc (.cells #[.bool g1, .slice A1 n1 c1, .int .i64 e1, .bool g2, .slice A2 n2 c2, .int .i64 e2] 26)) w.heap.size g1 A1 n1 c1 e1 g2 A2 n2 c2 e2) := Jb.new w g1 A1 n1 c1 e1 g2 A2 n2 c2 e2
  have ba := below1 (w.alloc (.cells #[.bool g1, .slice A1 n1 c1, .int .i64 e1, .bool g2, .slice A2 n2 c2, .int .i64 e2] 26)) (.cells #[.bool g3, .slice A3 n3 c3, .int .i64 e3, .bool g4, .slice A4 n4 c4, .int .i64 e4] 26)
  replace HT : Hid (Tab ((w.alloc (.cells #[.bool g1, .slice A1 n1 c1, .int .i64 e1, .bool g2, .slice A2 n2 c2, .int .i64 e2] 26)).alloc (.cells #[.bool g3, .slice A3 n3 c3, .int .i64 e3, .bool g4, .slice A4 n4 c4, .int .i64 e4] 26))) := HT.out.below ba
  replace Ja : Hid (Jb ((w.alloc (.cells #[.bool g1, .slice A1 n1 c1, .int .i64 e1, .bool g2, .slice A2 n2 c2, .int .i64 e2] 26)).alloc (.cells #[.bool g3, .slice A3 n3 c3, .int .i64 e3, .bool g4, .slice A4 n4 c4, .int .i64 e4] 26)) w.heap.size g1 A1 n1 c1 e1 g2 A2 n2 c2 e2) := Ja.out.below ba
  replace HS := Lib.hid (HS.out.trans (ba.mono HS.out.size))
  clear ba
  have Jk : Hid (Jb ((w.alloc (.cells #[.bool g1, .slice A1 n1 c1, .int .i64 e1, .bool g2, .slice A2 n2 c2, .int .i64 e2] 26)).alloc (.cells #[.bool g3, .slice A3 n3 c3, .int .i64 e3, .bool g4, .slice A4 n4 c4, .int .i64 e4] 26)) (w.heap.size + 1) g3 A3 n3 c3 e3 g4 A4 n4 c4 e4) := (by have h := Jb.new (w.alloc (.cells #[.bool g1, .slice A1 n1 c1, .int .i64 e1, .bool g2, .slice A2 n2 c2, .int .i64 e2] 26)) g3 A3 n3 c3 e3 g4 A4 n4 c4 e4; rw [World.size_alloc] at h; exact h)
  have ba := below1 ((w.alloc (.cells #[.bool g1, .slice A1 n1 c1, .int .i64 e1, .bool g2, .slice A2 n2 c2, .int .i64 e2] 26)).alloc (.cells #[.bool g3, .slice A3 n3 c3, .int .i64 e3, .bool g4, .slice A4 n4 c4, .int .i64 e4] 26)) (.cells #[.bool g5, .slice A5 n5 c5, .int .i64 e5] 24)
  replace HT : Hid (Tab (((w.alloc (.cells #[.bool g1, .slice A1 n1 c1, .int .i64 e1, .bool g2, .slice A2 n2 c2, .int .i64 e2] 26)).alloc (.cells #[.bool g3, .slice A3 n3 c3, .int .i64 e3, .bool g4, .slice A4 n4 c4, .int .i64 e4] 26)).alloc (.cells #[.bool g5, .slice A5 n5 c5, .int .i64 e5] 24))) := HT.out.below ba
  replace Ja : Hid (Jb (((w.alloc (.cells #[.bool g1, .slice A1 n1 c1, .int .i64 e1, .bool g2, .slice A2 n2 c2, .int .i64 e2] 26)).alloc (.cells #[.bool g3, .slice A3 n3 c3, .int .i64 e3, .bool g4, .slice A4 n4 c4, .int .i64 e4] 26)).alloc (.cells #[.bool g5, .slice A5 n5 c5, .int .i64 e5] 24)) w.heap.size g1 A1 n1 c1 e1 g2 A2 n2 c2 e2) := Ja.out.below ba
  replace Jk : Hid (Jb (((w.alloc (.cells #[.bool g1, .slice A1 n1 c1, .int .i64 e1, .bool g2, .slice A2 n2 c2, .int .i64 e2] 26)).alloc (.cells #[.bool g3, .slice A3 n3 c3, .int .i64 e3, .bool g4, .slice A4 n4 c4, .int .i64 e4] 26)).alloc (.cells #[.bool g5, .slice A5 n5 c5, .int .i64 e5] 24)) (w.heap.size + 1) g3 A3 n3 c3 e3 g4 A4 n4 c4 e4) := Jk.out.below ba
  replace HS := Lib.hid (HS.out.trans (ba.mono HS.out.size))
  clear ba
  have Jd : Hid (Bd (((w.alloc (.cells #[.bool g1, .slice A1 n1 c1, .int .i64 e1, .bool g2, .slice A2 n2 c2, .int .i64 e2] 26)).alloc (.cells #[.bool g3, .slice A3 n3 c3, .int .i64 e3, .bool g4, .slice A4 n4 c4, .int .i64 e4] 26)).alloc (.cells #[.bool g5, .slice A5 n5 c5, .int .i64 e5] 24)) (w.heap.size + 1 + 1) 24 g5 A5 n5 c5 e5) := (by have h := Bd.new ((w.alloc (.cells #[.bool g1, .slice A1 n1 c1, .int .i64 e1, .bool g2, .slice A2 n2 c2, .int .i64 e2] 26)).alloc (.cells #[.bool g3, .slice A3 n3 c3, .int .i64 e3, .bool g4, .slice A4 n4 c4, .int .i64 e4] 26)) 24 g5 A5 n5 c5 e5; rw [World.size_alloc, World.size_alloc] at h; exact h)
  have K := Lib.hid (ivalive_any (((w.alloc (.cells #[.bool g1, .slice A1 n1 c1, .int .i64 e1, .bool g2, .slice A2 n2 c2, .int .i64 e2] 26)).alloc (.cells #[.bool g3, .slice A3 n3 c3, .int .i64 e3, .bool g4, .slice A4 n4 c4, .int .i64 e4] 26)).alloc (.cells #[.bool g5, .slice A5 n5 c5, .int .i64 e5] 24)) HT.out)
  obtain ⟨va, hva⟩ : ∃ v, decide (Near15 n1 e1 ∧ Near15 n2 e2) = v := ⟨_, rfl⟩
  obtain ⟨vb, hvb⟩ : ∃ v, decide (Near15 n3 e3 ∧ Near15 n4 e4) = v := ⟨_, rfl⟩
  obtain ⟨vc, hvc⟩ : ∃ v, decide (Near15 n5 e5 ∧ Near15 n5 e5) = v := ⟨_, rfl⟩
  have HNO : Hid ((va && vb && vc) = false) := by rw [← hva, ← hvb, ← hvc]; exact hno
  have HVA := Lib.hid hva
  have HVB := Lib.hid hvb
  have HVC := Lib.hid hvc
  clear hva hvb hvc hno
  go_enter Tryd.func3, Tryd.ntmps3
  go_wp2_with fail
  refine K.out.mono ?_
  rintro e w1 ⟨rfl, hB⟩
  replace HT : Hid (Tab w1) := HT.out.below hB
  replace Ja : Hid (Jb w1 w.heap.size g1 A1 n1 c1 e1 g2 A2 n2 c2 e2) := Ja.out.below hB
  replace Jk : Hid (Jb w1 (w.heap.size + 1) g3 A3 n3 c3 e3 g4 A4 n4 c4 e4) := Jk.out.below hB
  replace Jd : Hid (Bd w1 (w.heap.size + 1 + 1) 24 g5 A5 n5 c5 e5) := Jd.out.below hB
  replace HS := Lib.hid (HS.out.trans (hB.mono HS.out.size))
  clear hB K
  have Ja_0 := Ja.out.x0
  have Ja_1 := Ja.out.x1
  have Ja_2 := Ja.out.x2
  have Ja_3 := Ja.out.x3
  have Ja_4 := Ja.out.x4
  have Ja_5 := Ja.out.x5
  have Jk_0 := Jk.out.x0
  have Jk_1 := Jk.out.x1
  have Jk_2 := Jk.out.x2
  have Jk_3 := Jk.out.x3
  have Jk_4 := Jk.out.x4
  have Jk_5 := Jk.out.x5
  have Jd_0 := Jd.out.c0
  have Jd_1 := Jd.out.c1
  have Jd_2 := Jd.out.c2
  have K := Lib.hid (near15_l va g1 A1 n1 c1 e1 g2 A2 n2 c2 e2 w1 HVA)
  go_wp2_with fail
  refine K.out.mono ?_
  rintro e w2 ⟨rfl, hB⟩
  clear Ja_0 Ja_1 Ja_2 Ja_3 Ja_4 Ja_5 Jk_0 Jk_1 Jk_2 Jk_3 Jk_4 Jk_5 Jd_0 Jd_1 Jd_2
  replace HT : Hid (Tab w2) := HT.out.below hB
  replace Ja : Hid (Jb w2 w.heap.size g1 A1 n1 c1 e1 g2 A2 n2 c2 e2) := Ja.out.below hB
  replace Jk : Hid (Jb w2 (w.heap.size + 1) g3 A3 n3 c3 e3 g4 A4 n4 c4 e4) := Jk.out.below hB
  replace Jd : Hid (Bd w2 (w.heap.size + 1 + 1) 24 g5 A5 n5 c5 e5) := Jd.out.below hB
  replace HS := Lib.hid (HS.out.trans (hB.mono HS.out.size))
  clear hB K
  have Ja_0 := Ja.out.x0
  have Ja_1 := Ja.out.x1
  have Ja_2 := Ja.out.x2
  have Ja_3 := Ja.out.x3
  have Ja_4 := Ja.out.x4
  have Ja_5 := Ja.out.x5
  have Jk_0 := Jk.out.x0
  have Jk_1 := Jk.out.x1
  have Jk_2 := Jk.out.x2
  have Jk_3 := Jk.out.x3
  have Jk_4 := Jk.out.x4
  have Jk_5 := Jk.out.x5
  have Jd_0 := Jd.out.c0
  have Jd_1 := Jd.out.c1
  have Jd_2 := Jd.out.c2
  cases va
  · skip
    have Hfin := Lib.hid HS.out
    clear HS HT Ja Jk Jd HVA HVB HVC HNO
    go_wp2
    go_ret
    exact ⟨rfl, Hfin.out⟩
  · skip
    have K := Lib.hid (near15_l vb g3 A3 n3 c3 e3 g4 A4 n4 c4 e4 w2 HVB)
    go_wp2_with fail
    refine K.out.mono ?_
    rintro e w3 ⟨rfl, hB⟩
    clear Ja_0 Ja_1 Ja_2 Ja_3 Ja_4 Ja_5 Jk_0 Jk_1 Jk_2 Jk_3 Jk_4 Jk_5 Jd_0 Jd_1 Jd_2
    replace HT : Hid (Tab w3) := HT.out.below hB
    replace Ja : Hid (Jb w3 w.heap.size g1 A1 n1 c1 e1 g2 A2 n2 c2 e2) := Ja.out.below hB
    replace Jk : Hid (Jb w3 (w.heap.size + 1) g3 A3 n3 c3 e3 g4 A4 n4 c4 e4) := Jk.out.below hB
    replace Jd : Hid (Bd w3 (w.heap.size + 1 + 1) 24 g5 A5 n5 c5 e5) := Jd.out.below hB
    replace HS := Lib.hid (HS.out.trans (hB.mono HS.out.size))
    clear hB K
    have Ja_0 := Ja.out.x0
    have Ja_1 := Ja.out.x1
    have Ja_2 := Ja.out.x2
    have Ja_3 := Ja.out.x3
    have Ja_4 := Ja.out.x4
    have Ja_5 := Ja.out.x5
    have Jk_0 := Jk.out.x0
    have Jk_1 := Jk.out.x1
    have Jk_2 := Jk.out.x2
    have Jk_3 := Jk.out.x3
    have Jk_4 := Jk.out.x4
    have Jk_5 := Jk.out.x5
    have Jd_0 := Jd.out.c0
    have Jd_1 := Jd.out.c1
    have Jd_2 := Jd.out.c2
    cases vb
    · skip
      have Hfin := Lib.hid HS.out
      clear HS HT Ja Jk Jd HVA HVB HVC HNO
      go_wp2
      go_ret
      exact ⟨rfl, Hfin.out⟩
    · skip
      have K := Lib.hid (near15_l vc g5 A5 n5 c5 e5 g5 A5 n5 c5 e5 w3 HVC)
      go_wp2_with fail
      refine K.out.mono ?_
      rintro e w4 ⟨rfl, hB⟩
      clear Ja_0 Ja_1 Ja_2 Ja_3 Ja_4 Ja_5 Jk_0 Jk_1 Jk_2 Jk_3 Jk_4 Jk_5 Jd_0 Jd_1 Jd_2
      replace HT : Hid (Tab w4) := HT.out.below hB
      replace Ja : Hid (Jb w4 w.heap.size g1 A1 n1 c1 e1 g2 A2 n2 c2 e2) := Ja.out.below hB
      replace Jk : Hid (Jb w4 (w.heap.size + 1) g3 A3 n3 c3 e3 g4 A4 n4 c4 e4) := Jk.out.below hB
      replace Jd : Hid (Bd w4 (w.heap.size + 1 + 1) 24 g5 A5 n5 c5 e5) := Jd.out.below hB
      replace HS := Lib.hid (HS.out.trans (hB.mono HS.out.size))
      clear hB K
      have Ja_0 := Ja.out.x0
      have Ja_1 := Ja.out.x1
      have Ja_2 := Ja.out.x2
      have Ja_3 := Ja.out.x3
      have Ja_4 := Ja.out.x4
      have Ja_5 := Ja.out.x5
      have Jk_0 := Jk.out.x0
      have Jk_1 := Jk.out.x1
      have Jk_2 := Jk.out.x2
      have Jk_3 := Jk.out.x3
      have Jk_4 := Jk.out.x4
      have Jk_5 := Jk.out.x5
      have Jd_0 := Jd.out.c0
      have Jd_1 := Jd.out.c1
      have Jd_2 := Jd.out.c2
      cases vc
      · skip
        have Hfin := Lib.hid HS.out
        clear HS HT Ja Jk Jd HVA HVB HVC HNO
        go_wp2
        go_ret
        exact ⟨rfl, Hfin.out⟩
      · skip
        exact absurd HNO.out (by decide)

theorem pn_dw {k j : Nat} {a b m : Dy} (ha : Sp k a) (hb : Sp j b) (hk : k + j ≤ 30000) (h : mulO (mk a.neg a.V a.e) (mk b.neg b.V b.e) = some m) {V U : Nat} (hV : V = a.V) (hU : U = b.V) : dw (pN a.neg V a.e b.neg U b.e).neg (pN a.neg V a.e b.neg U b.e).V (pN a.neg V a.e b.neg U b.e).e = dwD m := by
  subst hV; subst hU
  rw [pn_is ha hb hk h]
  rfl
/-- An operation on dyads that came in, on bare ones. -/
theorem nm_mulO {k j : Nat} {g1 g2 : Bool} {V1 V2 : Nat} {e1 e2 : Int} {d1 d2 m : Dy} (h1 : Nm k g1 V1 e1 d1) (h2 : Nm j g2 V2 e2 d2) : mulO (mk g1 V1 e1) (mk g2 V2 e2) = some m ↔ mulO (mk d1.neg d1.V d1.e) (mk d2.neg d2.V d2.e) = some m := by rw [h1.1, h2.1, h1.2.1.1, h2.2.1.1]
theorem nm_addO {k j : Nat} {g1 g2 : Bool} {V1 V2 : Nat} {e1 e2 : Int} {d1 d2 m : Dy} (h1 : Nm k g1 V1 e1 d1) (h2 : Nm j g2 V2 e2 d2) : addO (mk g1 V1 e1) (mk g2 V2 e2) = some m ↔ addO (mk d1.neg d1.V d1.e) (mk d2.neg d2.V d2.e) = some m := by rw [h1.1, h2.1, h1.2.1.1, h2.2.1.1]
theorem dw_not (g : Bool) (V : Nat) (e : Int) : dw (!g) V e = -dw g V e := by cases g <;> simp [dw]
theorem told_w {w : World} {z : Dy} {L : Nat} {e : Ending} {w' : World} {Q : Dy → Nat → Prop} (h : Told w (some z) L e w') (hL : L ≤ 100000) (hq : ∀ m, Q z m) : WTold5 w 0 Q e w' := by
  obtain ⟨g, A, m, c, zs, E, r, rfl, hm, hl, hb, hi, hB⟩ := h
  obtain ⟨rfl, rfl, hv, rfl⟩ := hi
  refine ⟨_, A, m, c, zs, _, rfl, by omega, hl, hb, hB, ?_⟩
  rw [hv]
  exact hq m
theorem none_w {w : World} {e : Ending} {w' : World} {Q : Dy → Nat → Prop} (h : e = .returned (.tuple #[.agg #[.bool false, .slice none 0 0, .int .i64 0], .int .i64 1]) ∧ Below w.heap.size w w') (hq : ∀ X, Q X 0) : WTold5 w 1 Q e w' :=
  ⟨false, none, 0, 0, [], 0, h.1, by omega, Lim.nil _ _ _, rfl, h.2, hq _⟩
/-- What lies between ends. -/
theorem ins_bool {d1 d2 d3 d4 : Dy} {v1 v2 b3 b4 b5 b6 : Bool} (W12 : decide (dwD d1 ≤ dwD d2) = v1) (W34 : decide (dwD d3 ≤ dwD d4) = v2) (W31 : decide (dwD d3 ≤ dwD d1) = b3) (W24 : decide (dwD d2 ≤ dwD d4) = b4) (W14 : decide (dwD d1 ≤ dwD d4) = b5) (W32 : decide (dwD d3 ≤ dwD d2) = b6) :
    (v1 && (v2 && b3 && b5) && (v2 && b6 && b4)) = (v1 && v2 && b3 && b4) := by
  by_cases h : v1 = true ∧ v2 = true ∧ b3 = true ∧ b4 = true
  · obtain ⟨rfl, rfl, rfl, rfl⟩ := h
    have k1 := of_decide_eq_true W12
    have k2 := of_decide_eq_true W31
    have k3 := of_decide_eq_true W24
    rw [← W14, ← W32, decide_eq_true (show dwD d1 ≤ dwD d4 by omega), decide_eq_true (show dwD d3 ≤ dwD d2 by omega)]
    rfl
  · cases v1 <;> cases v2 <;> cases b3 <;> cases b4 <;> first | rfl | (exact absurd ⟨rfl, rfl, rfl, rfl⟩ h) | (cases b5 <;> cases b6 <;> rfl)

set_option maxHeartbeats 4000000 in
/-- Of near numbers. -/
theorem ivtells_near (g1 : Bool) (A1 : Option Addr) (n1 c1 : Nat) (xs1 : List Nat) (e1 : Int) (g2 : Bool) (A2 : Option Addr) (n2 c2 : Nat) (xs2 : List Nat) (e2 : Int) (g3 : Bool) (A3 : Option Addr) (n3 c3 : Nat) (xs3 : List Nat) (e3 : Int) (g4 : Bool) (A4 : Option Addr) (n4 c4 : Nat) (xs4 : List Nat) (e4 : Int) (g5 : Bool) (A5 : Option Addr) (n5 c5 : Nat) (xs5 : List Nat) (e5 : Int) (w : World) (l : Lims5 A1 n1 c1 xs1 A2 n2 c2 xs2 A3 n3 c3 xs3 A4 n4 c4 xs4 A5 n5 c5 xs5 w) (hva : decide (Near15 n1 e1 ∧ Near15 n2 e2) = true) (hvb : decide (Near15 n3 e3 ∧ Near15 n4 e4) = true) (hvc : decide (Near15 n5 e5 ∧ Near15 n5 e5) = true) :
    Calls Tryd.prog 3 #[.agg #[.bool g1, .slice A1 n1 c1, .int .i64 e1, .bool g2, .slice A2 n2 c2, .int .i64 e2], .agg #[.bool g3, .slice A3 n3 c3, .int .i64 e3, .bool g4, .slice A4 n4 c4, .int .i64 e4], .agg #[.bool g5, .slice A5 n5 c5, .int .i64 e5]] w fun e w' => e = .returned (.bool true) ∧ Below w.heap.size w w' := by
  have na := of_decide_eq_true hva
  have nb := of_decide_eq_true hvb
  have nc := of_decide_eq_true hvc
  have n19 := na.1.1
  have n29 := na.2.1
  have n39 := nb.1.1
  have n49 := nb.2.1
  have n59 := nc.1.1
  obtain ⟨d1, N1⟩ := nm_raw g1 l.1 na.1
  obtain ⟨d2, N2⟩ := nm_raw g2 l.2.1 na.2
  obtain ⟨d3, N3⟩ := nm_raw g3 l.2.2.1 nb.1
  obtain ⟨d4, N4⟩ := nm_raw g4 l.2.2.2.1 nb.2
  obtain ⟨d5, N5⟩ := nm_raw g5 l.2.2.2.2.1 nc.1
  obtain ⟨mg, NM⟩ := nm_raw (!g1) l.1 na.1
  have wm : dwD mg = -dwD d1 := by rw [← NM.2.2, ← N1.2.2]; exact dw_not _ _ _
  clear na nb nc
  obtain ⟨v1, W12⟩ : ∃ v, decide (dwD d1 ≤ dwD d2) = v := ⟨_, rfl⟩
  have Q12 : Hid (decide ((dw g1 (val xs1) e1) ≤ (dw g2 (val xs2) e2)) = v1) := by rw [N1.2.2, N2.2.2]; exact W12
  obtain ⟨v2, W34⟩ : ∃ v, decide (dwD d3 ≤ dwD d4) = v := ⟨_, rfl⟩
  have Q34 : Hid (decide ((dw g3 (val xs3) e3) ≤ (dw g4 (val xs4) e4)) = v2) := by rw [N3.2.2, N4.2.2]; exact W34
  obtain ⟨b1, W15⟩ : ∃ v, decide (dwD d1 ≤ dwD d5) = v := ⟨_, rfl⟩
  have Q15 : Hid (decide ((dw g1 (val xs1) e1) ≤ (dw g5 (val xs5) e5)) = b1) := by rw [N1.2.2, N5.2.2]; exact W15
  obtain ⟨b2, W52⟩ : ∃ v, decide (dwD d5 ≤ dwD d2) = v := ⟨_, rfl⟩
  have Q52 : Hid (decide ((dw g5 (val xs5) e5) ≤ (dw g2 (val xs2) e2)) = b2) := by rw [N5.2.2, N2.2.2]; exact W52
  obtain ⟨b3, W31⟩ : ∃ v, decide (dwD d3 ≤ dwD d1) = v := ⟨_, rfl⟩
  have Q31 : Hid (decide ((dw g3 (val xs3) e3) ≤ (dw g1 (val xs1) e1)) = b3) := by rw [N3.2.2, N1.2.2]; exact W31
  obtain ⟨b4, W24⟩ : ∃ v, decide (dwD d2 ≤ dwD d4) = v := ⟨_, rfl⟩
  have Q24 : Hid (decide ((dw g2 (val xs2) e2) ≤ (dw g4 (val xs4) e4)) = b4) := by rw [N2.2.2, N4.2.2]; exact W24
  obtain ⟨b5, W14⟩ : ∃ v, decide (dwD d1 ≤ dwD d4) = v := ⟨_, rfl⟩
  have Q14 : Hid (decide ((dw g1 (val xs1) e1) ≤ (dw g4 (val xs4) e4)) = b5) := by rw [N1.2.2, N4.2.2]; exact W14
  obtain ⟨b6, W32⟩ : ∃ v, decide (dwD d3 ≤ dwD d2) = v := ⟨_, rfl⟩
  have Q32 : Hid (decide ((dw g3 (val xs3) e3) ≤ (dw g2 (val xs2) e2)) = b6) := by rw [N3.2.2, N2.2.2]; exact W32
  obtain ⟨s1, hs1, ss1, ws1⟩ := sp_add N1.2.1 N3.2.1 (by omega)
  obtain ⟨s2, hs2, ss2, ws2⟩ := sp_add N2.2.1 N4.2.1 (by omega)
  obtain ⟨z, hz, sz9, wz⟩ := sp_add N2.2.1 NM.2.1 (by omega)
  have x1 := sp_e N1.2.1
  have x2 := sp_e N2.2.1
  have x3 := sp_e N3.2.1
  have x4 := sp_e N4.2.1
  have x5 := sp_e N5.2.1
  obtain ⟨o1, S1, _⟩ := sums_ex d1 d3 d1.neg d3.neg (ss1.mono (by omega)) x1 x3 ws1
  obtain ⟨o2, S2, _⟩ := sums_ex d2 d4 d2.neg d4.neg (ss2.mono (by omega)) x2 x4 ws2
  obtain ⟨oz, S3, _⟩ := sums_ex d2 d1 d2.neg (!d1.neg) (s := z) (sz9.mono (by omega)) x2 x1 (by
    rw [dw_not]
    have h : dwD z = dwD d2 + dwD mg := wz
    rw [wm] at h
    exact h)
  obtain ⟨p0, p1, p2, p3, oa0, oa1, oa2, oa3, hA⟩ := nmul_ex N1 N2 N5 N5 (by omega)
  obtain ⟨r0, r1, r2, r3, ob0, ob1, ob2, ob3, hB⟩ := nmul_ex N1 N2 N3 N4 (by omega)
  have eA : ∀ X Y, MulV p0 p1 p2 p3 X Y → (Sp 9000 X ∧ Sp 9000 Y) ∧ dwD X = min (min (dwD p0) (dwD p1)) (min (dwD p2) (dwD p3)) ∧ dwD Y = max (max (dwD p0) (dwD p1)) (max (dwD p2) (dwD p3)) := fun X Y h => ⟨(hA X Y h).1, h.2.2.1, h.2.2.2⟩
  have eB : ∀ X Y, MulV r0 r1 r2 r3 X Y → (Sp 9000 X ∧ Sp 9000 Y) ∧ dwD X = min (min (dwD r0) (dwD r1)) (min (dwD r2) (dwD r3)) ∧ dwD Y = max (max (dwD r0) (dwD r1)) (max (dwD r2) (dwD r3)) := fun X Y h => ⟨(hB X Y h).1, h.2.2.1, h.2.2.2⟩
  clear hA hB
  have KS : ∀ v, Lims5 A1 n1 c1 xs1 A2 n2 c2 xs2 A3 n3 c3 xs3 A4 n4 c4 xs4 A5 n5 c5 xs5 v → Calls Tryd.prog 11 #[.agg #[.bool g1, .slice A1 n1 c1, .int .i64 e1, .bool g2, .slice A2 n2 c2, .int .i64 e2], .agg #[.bool g3, .slice A3 n3 c3, .int .i64 e3, .bool g4, .slice A4 n4 c4, .int .i64 e4]] v (ETold v (cond (v1 && v2) 0 1) (fun X Y m n => ((v1 && v2) = true → X = s1 ∧ Y = s2) ∧ ((v1 && v2) = false → m = 0 ∧ n = 0))) := by
    intro v h
    obtain ⟨vv, hvv⟩ : ∃ b, (v1 && v2) = b := ⟨_, rfl⟩
    rw [hvv]
    cases vv
    · exact (ivadd_no v1 v2 d1 d2 d3 d4 g1 A1 n1 c1 xs1 e1 g2 A2 n2 c2 xs2 e2 g3 A3 n3 c3 xs3 e3 g4 A4 n4 c4 xs4 e4 v h.1 (by omega) h.2.1 (by omega) h.2.2.1 (by omega) h.2.2.2.1 (by omega) h.2.2.2.2.2 (Lib.hid N1.1) (Lib.hid N2.1) (Lib.hid N3.1) (Lib.hid N4.1) Q12 Q34 hvv).mono fun _ _ k => etold_of k fun X Y z m n hq => ⟨hq.1, (fun hc => by cases hc), fun _ => hq.2⟩
    · obtain ⟨rfl, rfl⟩ : v1 = true ∧ v2 = true := by cases v1 <;> cases v2 <;> first | exact ⟨rfl, rfl⟩ | cases hvv
      exact (ivadd_yes s1 s2 d1 d2 d3 d4 g1 A1 n1 c1 xs1 e1 g2 A2 n2 c2 xs2 e2 g3 A3 n3 c3 xs3 e3 g4 A4 n4 c4 xs4 e4 v h.1 (by omega) h.2.1 (by omega) h.2.2.1 (by omega) h.2.2.2.1 (by omega) h.2.2.2.2.2 (Lib.hid N1.1) (Lib.hid N2.1) (Lib.hid N3.1) (Lib.hid N4.1) Q12 Q34 (Lib.hid ((nm_addO N1 N3).2 hs1)) (Lib.hid ((nm_addO N2 N4).2 hs2))).mono fun _ _ k => etold_of k fun X Y z m n hq => ⟨hq.1, (fun _ => hq.2), (fun hc => by cases hc)⟩
  have KM : ∀ v, Lims5 A1 n1 c1 xs1 A2 n2 c2 xs2 A3 n3 c3 xs3 A4 n4 c4 xs4 A5 n5 c5 xs5 v → Calls Tryd.prog 13 #[.agg #[.bool g1, .slice A1 n1 c1, .int .i64 e1, .bool g2, .slice A2 n2 c2, .int .i64 e2], .agg #[.bool g3, .slice A3 n3 c3, .int .i64 e3, .bool g4, .slice A4 n4 c4, .int .i64 e4]] v (ETold v (cond (v1 && v2) 0 1) (fun X Y m n => ((v1 && v2) = true → MulV r0 r1 r2 r3 X Y) ∧ ((v1 && v2) = false → m = 0 ∧ n = 0))) := by
    intro v h
    obtain ⟨vv, hvv⟩ : ∃ b, (v1 && v2) = b := ⟨_, rfl⟩
    rw [hvv]
    cases vv
    · exact (ivmul_no v1 v2 d1 d2 d3 d4 g1 A1 n1 c1 xs1 e1 g2 A2 n2 c2 xs2 e2 g3 A3 n3 c3 xs3 e3 g4 A4 n4 c4 xs4 e4 v h.1 (by omega) h.2.1 (by omega) h.2.2.1 (by omega) h.2.2.2.1 (by omega) h.2.2.2.2.2 (Lib.hid N1.1) (Lib.hid N2.1) (Lib.hid N3.1) (Lib.hid N4.1) Q12 Q34 hvv).mono fun _ _ k => etold_of k fun X Y z m n hq => ⟨hq.1, (fun hc => by cases hc), fun _ => hq.2⟩
    · obtain ⟨rfl, rfl⟩ : v1 = true ∧ v2 = true := by cases v1 <;> cases v2 <;> first | exact ⟨rfl, rfl⟩ | cases hvv
      exact (ivmul_yes r0 r1 r2 r3 d1 d2 d3 d4 g1 A1 n1 c1 xs1 e1 g2 A2 n2 c2 xs2 e2 g3 A3 n3 c3 xs3 e3 g4 A4 n4 c4 xs4 e4 v h.1 (by omega) h.2.1 (by omega) h.2.2.1 (by omega) h.2.2.2.1 (by omega) h.2.2.2.2.2 (Lib.hid N1.1) (Lib.hid N2.1) (Lib.hid N3.1) (Lib.hid N4.1) Q12 Q34 (Lib.hid ob0) (Lib.hid ob1) (Lib.hid ob2) (Lib.hid ob3)).mono fun _ _ k => etold_of k fun X Y z m n hq => ⟨hq.1, (fun _ => hq.2), (fun hc => by cases hc)⟩
  have KT : ∀ v, Lims5 A1 n1 c1 xs1 A2 n2 c2 xs2 A3 n3 c3 xs3 A4 n4 c4 xs4 A5 n5 c5 xs5 v → Calls Tryd.prog 14 #[.agg #[.bool g1, .slice A1 n1 c1, .int .i64 e1, .bool g2, .slice A2 n2 c2, .int .i64 e2], .agg #[.bool g5, .slice A5 n5 c5, .int .i64 e5]] v (ETold v (cond v1 0 1) (fun X Y m n => (v1 = true → MulV p0 p1 p2 p3 X Y) ∧ (v1 = false → m = 0 ∧ n = 0))) := by
    intro v h
    cases v1
    · refine (ivtimes_l (fun _ _ r m1 m2 => r = 1 ∧ m1 = 0 ∧ m2 = 0) d5 g1 A1 n1 c1 xs1 e1 g2 A2 n2 c2 xs2 e2 g5 A5 n5 c5 xs5 e5 v h.1 h.2.1 h.2.2.2.2.1 (by omega) h.2.2.2.2.2 (Lib.hid N5.1) (Lib.hid ?_)).mono fun _ _ k => etold_of k fun X Y z m n hq => ⟨hq.1, (fun hc => by cases hc), fun _ => hq.2⟩
      intro u g6 A6 n6 c6 xs6 e6 g7 A7 n7 c7 xs7 e7 k1 k2 kT k6 k7 b6x b7x q6 q7
      have Na := nm_eq q6 N5.2.1
      have Nb := nm_eq q7 N5.2.1
      have k69 : n6 ≤ 300 := by rw [← k6.len]; exact sp_len N5.2.1 k6.words b6x (by rw [← q6]) (by decide)
      have k79 : n7 ≤ 300 := by rw [← k7.len]; exact sp_len N5.2.1 k7.words b7x (by rw [← q7]) (by decide)
      exact ivmul_no false true d1 d2 d5 d5 g1 A1 n1 c1 xs1 e1 g2 A2 n2 c2 xs2 e2 g6 A6 n6 c6 xs6 e6 g7 A7 n7 c7 xs7 e7 u k1 (by omega) k2 (by omega) k6 (by omega) k7 (by omega) kT (Lib.hid N1.1) (Lib.hid N2.1) (Lib.hid Na.1) (Lib.hid Nb.1) Q12 (Lib.hid (decide_eq_true (by rw [Na.2.2, Nb.2.2]; exact Int.le_refl _))) rfl
    · refine (ivtimes_l (fun X Y r _ _ => r = 0 ∧ MulV p0 p1 p2 p3 X Y) d5 g1 A1 n1 c1 xs1 e1 g2 A2 n2 c2 xs2 e2 g5 A5 n5 c5 xs5 e5 v h.1 h.2.1 h.2.2.2.2.1 (by omega) h.2.2.2.2.2 (Lib.hid N5.1) (Lib.hid ?_)).mono fun _ _ k => etold_of k fun X Y z m n hq => ⟨hq.1, (fun _ => hq.2), (fun hc => by cases hc)⟩
      intro u g6 A6 n6 c6 xs6 e6 g7 A7 n7 c7 xs7 e7 k1 k2 kT k6 k7 b6x b7x q6 q7
      have Na := nm_eq q6 N5.2.1
      have Nb := nm_eq q7 N5.2.1
      have k69 : n6 ≤ 300 := by rw [← k6.len]; exact sp_len N5.2.1 k6.words b6x (by rw [← q6]) (by decide)
      have k79 : n7 ≤ 300 := by rw [← k7.len]; exact sp_len N5.2.1 k7.words b7x (by rw [← q7]) (by decide)
      exact ivmul_yes p0 p1 p2 p3 d1 d2 d5 d5 g1 A1 n1 c1 xs1 e1 g2 A2 n2 c2 xs2 e2 g6 A6 n6 c6 xs6 e6 g7 A7 n7 c7 xs7 e7 u k1 (by omega) k2 (by omega) k6 (by omega) k7 (by omega) kT (Lib.hid N1.1) (Lib.hid N2.1) (Lib.hid Na.1) (Lib.hid Nb.1) Q12 (Lib.hid (decide_eq_true (by rw [Na.2.2, Nb.2.2]; exact Int.le_refl _))) (Lib.hid ((nm_mulO N1 Na).2 ((nm_mulO N1 N5).1 oa0))) (Lib.hid ((nm_mulO N1 Nb).2 ((nm_mulO N1 N5).1 oa1))) (Lib.hid ((nm_mulO N2 Na).2 ((nm_mulO N2 N5).1 oa2))) (Lib.hid ((nm_mulO N2 Nb).2 ((nm_mulO N2 N5).1 oa3)))
  have KW : ∀ v, Lims5 A1 n1 c1 xs1 A2 n2 c2 xs2 A3 n3 c3 xs3 A4 n4 c4 xs4 A5 n5 c5 xs5 v → Calls Tryd.prog 15 #[.agg #[.bool g1, .slice A1 n1 c1, .int .i64 e1, .bool g2, .slice A2 n2 c2, .int .i64 e2]] v (WTold5 v (cond v1 0 1) (fun X m => (v1 = true → X = z) ∧ (v1 = false → m = 0))) := by
    intro v h
    cases v1
    · exact (ivwide_no d1 d2 g1 A1 n1 c1 xs1 e1 g2 A2 n2 c2 xs2 e2 v h.1 (by omega) h.2.1 (by omega) h.2.2.2.2.2 (Lib.hid N1.1) (Lib.hid N2.1) Q12).mono fun _ _ k => none_w k fun X => ⟨(fun hc => by cases hc), fun _ => rfl⟩
    · exact (ivwide_yes z mg d1 d2 g1 A1 n1 c1 xs1 e1 g2 A2 n2 c2 xs2 e2 v h.1 (by omega) h.2.1 (by omega) h.2.2.2.2.2 (Lib.hid N1.1) (Lib.hid N2.1) Q12 (Lib.hid NM.1) (Lib.hid (by rw [N2.1]; have h9 := hz; rw [N2.2.1.1] at h9; exact h9))).mono fun _ _ k => told_w k (by omega) fun m => ⟨fun _ => rfl, (fun hc => by cases hc)⟩
  have KR : ∀ v, Lims5 A1 n1 c1 xs1 A2 n2 c2 xs2 A3 n3 c3 xs3 A4 n4 c4 xs4 A5 n5 c5 xs5 v → Calls Tryd.prog 16 #[.agg #[.bool g1, .slice A1 n1 c1, .int .i64 e1, .bool g2, .slice A2 n2 c2, .int .i64 e2]] v (fun e w' => e = .returned (.bool v1) ∧ Below v.heap.size v w') := fun v h => iright_l v1 d1 d2 g1 A1 n1 c1 xs1 e1 g2 A2 n2 c2 xs2 e2 v h.1 (by omega) h.2.1 (by omega) h.2.2.2.2.2 (Lib.hid N1.1) (Lib.hid N2.1) Q12
  have KH : ∀ v, Lims5 A1 n1 c1 xs1 A2 n2 c2 xs2 A3 n3 c3 xs3 A4 n4 c4 xs4 A5 n5 c5 xs5 v → Calls Tryd.prog 17 #[.agg #[.bool g1, .slice A1 n1 c1, .int .i64 e1, .bool g2, .slice A2 n2 c2, .int .i64 e2], .agg #[.bool g5, .slice A5 n5 c5, .int .i64 e5]] v (fun e w' => e = .returned (.bool (v1 && b1 && b2)) ∧ Below v.heap.size v w') := fun v h => ihas_l v1 b1 b2 d1 d2 d5 g1 A1 n1 c1 xs1 e1 g2 A2 n2 c2 xs2 e2 g5 A5 n5 c5 xs5 e5 v h.1 (by omega) h.2.1 (by omega) h.2.2.2.2.1 (by omega) h.2.2.2.2.2 (Lib.hid N1.1) (Lib.hid N2.1) (Lib.hid N5.1) Q12 Q15 Q52
  have KI : ∀ v, Lims5 A1 n1 c1 xs1 A2 n2 c2 xs2 A3 n3 c3 xs3 A4 n4 c4 xs4 A5 n5 c5 xs5 v → Calls Tryd.prog 18 #[.agg #[.bool g1, .slice A1 n1 c1, .int .i64 e1, .bool g2, .slice A2 n2 c2, .int .i64 e2], .agg #[.bool g3, .slice A3 n3 c3, .int .i64 e3, .bool g4, .slice A4 n4 c4, .int .i64 e4]] v (fun e w' => e = .returned (.bool (v1 && v2 && b3 && b4)) ∧ Below v.heap.size v w') := by
    intro v h
    have k := iinside_l v1 v2 b3 b5 b6 b4 d1 d2 d3 d4 g1 A1 n1 c1 xs1 e1 g2 A2 n2 c2 xs2 e2 g3 A3 n3 c3 xs3 e3 g4 A4 n4 c4 xs4 e4 v h.1 (by omega) h.2.1 (by omega) h.2.2.1 (by omega) h.2.2.2.1 (by omega) h.2.2.2.2.2 (Lib.hid N1.1) (Lib.hid N2.1) (Lib.hid N3.1) (Lib.hid N4.1) Q12 Q34 Q31 Q14 Q32 Q24
    rw [ins_bool W12 W34 W31 W24 W14 W32] at k
    exact k
  have EA : ∀ (v : World) (X0 : Option Addr) (y0 q0 : Nat) (z0 : List Nat) (X1 : Option Addr) (y1 q1 : Nat) (z1 : List Nat) (X2 : Option Addr) (y2 q2 : Nat) (z2 : List Nat) (X3 : Option Addr) (y3 q3 : Nat) (z3 : List Nat), Dn v d1.V X0 y0 q0 z0 → Dn v d2.V X1 y1 q1 z1 → Dn v d5.V X2 y2 q2 z2 → Dn v d5.V X3 y3 q3 z3 → Calls Tryd.prog 21 #[.agg #[.bool d1.neg, .slice X0 y0 q0, .int .i64 d1.e, .bool d2.neg, .slice X1 y1 q1, .int .i64 d2.e], .agg #[.bool d5.neg, .slice X2 y2 q2, .int .i64 d5.e, .bool d5.neg, .slice X3 y3 q3, .int .i64 d5.e]] v (EndsN v 601 (min (min (dwD p0) (dwD p1)) (min (dwD p2) (dwD p3))) (max (max (dwD p0) (dwD p1)) (max (dwD p2) (dwD p3)))) := by
    intro v X0 y0 q0 z0 X1 y1 q1 z1 X2 y2 q2 z2 X3 y3 q3 z3 h0 h1 h2 h3
    exact iends_l d1.neg X0 y0 q0 z0 d1.e d2.neg X1 y1 q1 z1 d2.e d5.neg X2 y2 q2 z2 d5.e d5.neg X3 y3 q3 z3 d5.e v _ _ _ _ ⟨h0.1, h0.2.1⟩ ⟨h1.1, h1.2.1⟩ ⟨h2.1, h2.2.1⟩ ⟨h3.1, h3.2.1⟩ (by have := h0.2.2.1; omega) (by have := h1.2.2.1; omega) (by have := h2.2.2.1; omega) (by have := h3.2.2.1; omega) (by omega) (by omega) (by omega) (by omega) (pn_dw N1.2.1 N5.2.1 (by omega) ((nm_mulO N1 N5).1 oa0) h0.2.2.2 h2.2.2.2) (pn_dw N1.2.1 N5.2.1 (by omega) ((nm_mulO N1 N5).1 oa1) h0.2.2.2 h3.2.2.2) (pn_dw N2.2.1 N5.2.1 (by omega) ((nm_mulO N2 N5).1 oa2) h1.2.2.2 h2.2.2.2) (pn_dw N2.2.1 N5.2.1 (by omega) ((nm_mulO N2 N5).1 oa3) h1.2.2.2 h3.2.2.2)
  have EB : ∀ (v : World) (X0 : Option Addr) (y0 q0 : Nat) (z0 : List Nat) (X1 : Option Addr) (y1 q1 : Nat) (z1 : List Nat) (X2 : Option Addr) (y2 q2 : Nat) (z2 : List Nat) (X3 : Option Addr) (y3 q3 : Nat) (z3 : List Nat), Dn v d1.V X0 y0 q0 z0 → Dn v d2.V X1 y1 q1 z1 → Dn v d3.V X2 y2 q2 z2 → Dn v d4.V X3 y3 q3 z3 → Calls Tryd.prog 21 #[.agg #[.bool d1.neg, .slice X0 y0 q0, .int .i64 d1.e, .bool d2.neg, .slice X1 y1 q1, .int .i64 d2.e], .agg #[.bool d3.neg, .slice X2 y2 q2, .int .i64 d3.e, .bool d4.neg, .slice X3 y3 q3, .int .i64 d4.e]] v (EndsN v 601 (min (min (dwD r0) (dwD r1)) (min (dwD r2) (dwD r3))) (max (max (dwD r0) (dwD r1)) (max (dwD r2) (dwD r3)))) := by
    intro v X0 y0 q0 z0 X1 y1 q1 z1 X2 y2 q2 z2 X3 y3 q3 z3 h0 h1 h2 h3
    exact iends_l d1.neg X0 y0 q0 z0 d1.e d2.neg X1 y1 q1 z1 d2.e d3.neg X2 y2 q2 z2 d3.e d4.neg X3 y3 q3 z3 d4.e v _ _ _ _ ⟨h0.1, h0.2.1⟩ ⟨h1.1, h1.2.1⟩ ⟨h2.1, h2.2.1⟩ ⟨h3.1, h3.2.1⟩ (by have := h0.2.2.1; omega) (by have := h1.2.2.1; omega) (by have := h2.2.2.1; omega) (by have := h3.2.2.1; omega) (by omega) (by omega) (by omega) (by omega) (pn_dw N1.2.1 N3.2.1 (by omega) ((nm_mulO N1 N3).1 ob0) h0.2.2.2 h2.2.2.2) (pn_dw N1.2.1 N4.2.1 (by omega) ((nm_mulO N1 N4).1 ob1) h0.2.2.2 h3.2.2.2) (pn_dw N2.2.1 N3.2.1 (by omega) ((nm_mulO N2 N3).1 ob2) h1.2.2.2 h2.2.2.2) (pn_dw N2.2.1 N4.2.1 (by omega) ((nm_mulO N2 N4).1 ob3) h1.2.2.2 h3.2.2.2)
  refine ivtells_core v1 v2 b1 b2 b3 b4 (v1 && b1 && b2) (v1 && v2 && b3 && b4) (cond (v1 && v2) 0 1) (cond (v1 && v2) 0 1) (cond v1 0 1) (cond v1 0 1) (min (min (dwD p0) (dwD p1)) (min (dwD p2) (dwD p3))) (max (max (dwD p0) (dwD p1)) (max (dwD p2) (dwD p3))) (min (min (dwD r0) (dwD r1)) (min (dwD r2) (dwD r3))) (max (max (dwD r0) (dwD r1)) (max (dwD r2) (dwD r3))) _ _ _ _ d1 d2 d3 d4 d5 s1 s2 z o1 o2 oz g1 A1 n1 c1 xs1 e1 g2 A2 n2 c2 xs2 e2 g3 A3 n3 c3 xs3 e3 g4 A4 n4 c4 xs4 e4 g5 A5 n5 c5 xs5 e5 w l (Lib.hid ⟨hva, hvb, hvc, N1, N2, N3, N4, N5, W12, W34, W15, W52, W31, W24, rfl, rfl, KS, KM, KT, KW, KR, KH, KI, EA, EB, S1, S2, S3, ⟨ss1.mono (by omega), ss2.mono (by omega), sz9.mono (by omega)⟩, ?_, ?_, ?_, ?_⟩)
  · intro h; subst h
    exact ⟨rfl, rfl, rfl, rfl, fun X Y m n k => (k.2 rfl).2, fun X Y m n k => (k.2 rfl).1, fun X m k => k.2 rfl⟩
  · intro h; subst h
    exact ⟨rfl, rfl, fun X Y m n k => eA X Y (k.1 rfl), fun X m k => k.1 rfl⟩
  · intro h; subst h
    have e : (v1 && false) = false := by cases v1 <;> rfl
    exact ⟨by rw [e]; rfl, by rw [e]; rfl, fun X Y m n k => (k.2 e).1⟩
  · intro h h'; subst h; subst h'
    exact ⟨rfl, rfl, fun X Y m n k => k.1 rfl, fun X Y m n k => eB X Y (k.1 rfl)⟩

/-- IvTells holds of every two intervals and every dyad. -/
theorem ivtells_any (g1 : Bool) (A1 : Option Addr) (n1 c1 : Nat) (xs1 : List Nat) (e1 : Int) (g2 : Bool) (A2 : Option Addr) (n2 c2 : Nat) (xs2 : List Nat) (e2 : Int) (g3 : Bool) (A3 : Option Addr) (n3 c3 : Nat) (xs3 : List Nat) (e3 : Int) (g4 : Bool) (A4 : Option Addr) (n4 c4 : Nat) (xs4 : List Nat) (e4 : Int) (g5 : Bool) (A5 : Option Addr) (n5 c5 : Nat) (xs5 : List Nat) (e5 : Int) (w : World) (l1 : Lim w A1 n1 c1 xs1) (l2 : Lim w A2 n2 c2 xs2) (l3 : Lim w A3 n3 c3 xs3) (l4 : Lim w A4 n4 c4 xs4) (l5 : Lim w A5 n5 c5 xs5) (hT : Tab w) :
    Calls Tryd.prog 3 #[.agg #[.bool g1, .slice A1 n1 c1, .int .i64 e1, .bool g2, .slice A2 n2 c2, .int .i64 e2], .agg #[.bool g3, .slice A3 n3 c3, .int .i64 e3, .bool g4, .slice A4 n4 c4, .int .i64 e4], .agg #[.bool g5, .slice A5 n5 c5, .int .i64 e5]] w fun e w' => e = .returned (.bool true) ∧ Below w.heap.size w w' := by
  by_cases h : decide (Near15 n1 e1 ∧ Near15 n2 e2) = true ∧ decide (Near15 n3 e3 ∧ Near15 n4 e4) = true ∧ decide (Near15 n5 e5 ∧ Near15 n5 e5) = true
  · exact ivtells_near g1 A1 n1 c1 xs1 e1 g2 A2 n2 c2 xs2 e2 g3 A3 n3 c3 xs3 e3 g4 A4 n4 c4 xs4 e4 g5 A5 n5 c5 xs5 e5 w ⟨l1, l2, l3, l4, l5, hT⟩ h.1 h.2.1 h.2.2
  · refine ivtells_far g1 A1 n1 c1 e1 g2 A2 n2 c2 e2 g3 A3 n3 c3 e3 g4 A4 n4 c4 e4 g5 A5 n5 c5 e5 w hT (Lib.hid ?_)
    revert h
    generalize decide (Near15 n1 e1 ∧ Near15 n2 e2) = va
    generalize decide (Near15 n3 e3 ∧ Near15 n4 e4) = vb
    generalize decide (Near15 n5 e5 ∧ Near15 n5 e5) = vc
    intro h
    cases va <;> cases vb <;> cases vc <;> first | rfl | exact absurd ⟨rfl, rfl, rfl⟩ h
end Go.Proofs.YtafgooiakmmfkaaDoor
