/- The walk of the law IvTells, from the contracts of what it calls (written by law_itells.py). -/
import Derived.Test.YtafgooiakmmfkaaDoorIvBoxN
import Derived.Deep.CutRange
namespace Go.Proofs.YtafgooiakmmfkaaDoor
open Go.RowKit

/-- What came in, and the table. -/
def Lims5 (A1 : Option Addr) (n1 c1 : Nat) (xs1 : List Nat) (A2 : Option Addr) (n2 c2 : Nat) (xs2 : List Nat) (A3 : Option Addr) (n3 c3 : Nat) (xs3 : List Nat) (A4 : Option Addr) (n4 c4 : Nat) (xs4 : List Nat) (A5 : Option Addr) (n5 c5 : Nat) (xs5 : List Nat) (w : World) : Prop := Lim w A1 n1 c1 xs1 ∧ Lim w A2 n2 c2 xs2 ∧ Lim w A3 n3 c3 xs3 ∧ Lim w A4 n4 c4 xs4 ∧ Lim w A5 n5 c5 xs5 ∧ Tab w
theorem Lims5.below {w w' : World} {A1 : Option Addr} {n1 c1 : Nat} {xs1 : List Nat} {A2 : Option Addr} {n2 c2 : Nat} {xs2 : List Nat} {A3 : Option Addr} {n3 c3 : Nat} {xs3 : List Nat} {A4 : Option Addr} {n4 c4 : Nat} {xs4 : List Nat} {A5 : Option Addr} {n5 c5 : Nat} {xs5 : List Nat} (h : Lims5 A1 n1 c1 xs1 A2 n2 c2 xs2 A3 n3 c3 xs3 A4 n4 c4 xs4 A5 n5 c5 xs5 w) (hb : Below w.heap.size w w') : Lims5 A1 n1 c1 xs1 A2 n2 c2 xs2 A3 n3 c3 xs3 A4 n4 c4 xs4 A5 n5 c5 xs5 w' := ⟨h.1.below hb, h.2.1.below hb, h.2.2.1.below hb, h.2.2.2.1.below hb, h.2.2.2.2.1.below hb, h.2.2.2.2.2.below hb⟩
/-- Behind a world. -/
def Bel (u w : World) : Prop := Below u.heap.size u w
theorem Bel.below {u w w' : World} (h : Bel u w) (hb : Below w.heap.size w w') : Bel u w' := Below.trans h (hb.mono (Below.size h))
theorem cmpI_upto {a b : Int} : (cmpI a b ≤ 0) ↔ a ≤ b := by unfold cmpI; split <;> (try split) <;> omega
/-- The document's order of two numbers of a few digits. -/
theorem dn_cmp {w : World} {d k : Dy} {A : Option Addr} {n c : Nat} {ds : List Nat} {B : Option Addr} {m e : Nat} {es : List Nat} (v : Int) (hv : Hid (cmpI (dwD d) (dwD k) = v)) (h : Dn w d.V A n c ds) (h' : Dn w k.V B m e es) (b1 : Sp 3640 d) (b2 : Sp 3640 k) :
    Calls Tryd.prog 10 #[.agg #[.bool d.neg, .slice A n c, .int .i64 d.e], .agg #[.bool k.neg, .slice B m e, .int .i64 k.e]] w fun e w' => e = .returned (.int .i64 v) ∧ Below w.heap.size w w' := by
  obtain ⟨h1, h2, h3, h4⟩ := h
  obtain ⟨k1, k2, k3, k4⟩ := h'
  have hd := sp_e b1
  have hk := sp_e b2
  exact gcmp_any v d.neg A n c ds d.e k.neg B m e es k.e w h1 k1 h2 k2 (by omega) (by omega) (by omega) (by omega) (by omega) (by omega) (by rw [h4, k4]; exact hv)

/-- What is known of the numbers, and the contracts of what the law calls. -/
structure TellC (v1 v2 b1 b2 b3 b4 has ins : Bool) (rs rm rt rw loA hiA loB hiB : Int) (QS QM QT : Dy → Dy → Nat → Nat → Prop) (QW : Dy → Nat → Prop) (d1 d2 d3 d4 d5 s1 s2 z o1 o2 oz : Dy) (g1 : Bool) (A1 : Option Addr) (n1 c1 : Nat) (xs1 : List Nat) (e1 : Int) (g2 : Bool) (A2 : Option Addr) (n2 c2 : Nat) (xs2 : List Nat) (e2 : Int) (g3 : Bool) (A3 : Option Addr) (n3 c3 : Nat) (xs3 : List Nat) (e3 : Int) (g4 : Bool) (A4 : Option Addr) (n4 c4 : Nat) (xs4 : List Nat) (e4 : Int) (g5 : Bool) (A5 : Option Addr) (n5 c5 : Nat) (xs5 : List Nat) (e5 : Int) : Prop where
  HVA : decide (Near15 n1 e1 ∧ Near15 n2 e2) = true
  HVB : decide (Near15 n3 e3 ∧ Near15 n4 e4) = true
  HVC : decide (Near15 n5 e5 ∧ Near15 n5 e5) = true
  N1 : Nm 3640 g1 (val xs1) e1 d1
  N2 : Nm 3640 g2 (val xs2) e2 d2
  N3 : Nm 3640 g3 (val xs3) e3 d3
  N4 : Nm 3640 g4 (val xs4) e4 d4
  N5 : Nm 3640 g5 (val xs5) e5 d5
  W12 : decide (dwD d1 ≤ dwD d2) = v1
  W34 : decide (dwD d3 ≤ dwD d4) = v2
  W15 : decide (dwD d1 ≤ dwD d5) = b1
  W52 : decide (dwD d5 ≤ dwD d2) = b2
  W31 : decide (dwD d3 ≤ dwD d1) = b3
  W24 : decide (dwD d2 ≤ dwD d4) = b4
  hh : (v1 && b1 && b2) = has
  hi : (v1 && v2 && b3 && b4) = ins
  KS : ∀ v, Lims5 A1 n1 c1 xs1 A2 n2 c2 xs2 A3 n3 c3 xs3 A4 n4 c4 xs4 A5 n5 c5 xs5 v → Calls Tryd.prog 11 #[.agg #[.bool g1, .slice A1 n1 c1, .int .i64 e1, .bool g2, .slice A2 n2 c2, .int .i64 e2], .agg #[.bool g3, .slice A3 n3 c3, .int .i64 e3, .bool g4, .slice A4 n4 c4, .int .i64 e4]] v (ETold v rs QS)
  KM : ∀ v, Lims5 A1 n1 c1 xs1 A2 n2 c2 xs2 A3 n3 c3 xs3 A4 n4 c4 xs4 A5 n5 c5 xs5 v → Calls Tryd.prog 13 #[.agg #[.bool g1, .slice A1 n1 c1, .int .i64 e1, .bool g2, .slice A2 n2 c2, .int .i64 e2], .agg #[.bool g3, .slice A3 n3 c3, .int .i64 e3, .bool g4, .slice A4 n4 c4, .int .i64 e4]] v (ETold v rm QM)
  KT : ∀ v, Lims5 A1 n1 c1 xs1 A2 n2 c2 xs2 A3 n3 c3 xs3 A4 n4 c4 xs4 A5 n5 c5 xs5 v → Calls Tryd.prog 14 #[.agg #[.bool g1, .slice A1 n1 c1, .int .i64 e1, .bool g2, .slice A2 n2 c2, .int .i64 e2], .agg #[.bool g5, .slice A5 n5 c5, .int .i64 e5]] v (ETold v rt QT)
  KW : ∀ v, Lims5 A1 n1 c1 xs1 A2 n2 c2 xs2 A3 n3 c3 xs3 A4 n4 c4 xs4 A5 n5 c5 xs5 v → Calls Tryd.prog 15 #[.agg #[.bool g1, .slice A1 n1 c1, .int .i64 e1, .bool g2, .slice A2 n2 c2, .int .i64 e2]] v (WTold5 v rw QW)
  KR : ∀ v, Lims5 A1 n1 c1 xs1 A2 n2 c2 xs2 A3 n3 c3 xs3 A4 n4 c4 xs4 A5 n5 c5 xs5 v → Calls Tryd.prog 16 #[.agg #[.bool g1, .slice A1 n1 c1, .int .i64 e1, .bool g2, .slice A2 n2 c2, .int .i64 e2]] v (fun e w' => e = .returned (.bool v1) ∧ Below v.heap.size v w')
  KH : ∀ v, Lims5 A1 n1 c1 xs1 A2 n2 c2 xs2 A3 n3 c3 xs3 A4 n4 c4 xs4 A5 n5 c5 xs5 v → Calls Tryd.prog 17 #[.agg #[.bool g1, .slice A1 n1 c1, .int .i64 e1, .bool g2, .slice A2 n2 c2, .int .i64 e2], .agg #[.bool g5, .slice A5 n5 c5, .int .i64 e5]] v (fun e w' => e = .returned (.bool has) ∧ Below v.heap.size v w')
  KI : ∀ v, Lims5 A1 n1 c1 xs1 A2 n2 c2 xs2 A3 n3 c3 xs3 A4 n4 c4 xs4 A5 n5 c5 xs5 v → Calls Tryd.prog 18 #[.agg #[.bool g1, .slice A1 n1 c1, .int .i64 e1, .bool g2, .slice A2 n2 c2, .int .i64 e2], .agg #[.bool g3, .slice A3 n3 c3, .int .i64 e3, .bool g4, .slice A4 n4 c4, .int .i64 e4]] v (fun e w' => e = .returned (.bool ins) ∧ Below v.heap.size v w')
  EA : (∀ (v : World) (X0 : Option Addr) (p0 q0 : Nat) (z0 : List Nat) (X1 : Option Addr) (p1 q1 : Nat) (z1 : List Nat) (X2 : Option Addr) (p2 q2 : Nat) (z2 : List Nat) (X3 : Option Addr) (p3 q3 : Nat) (z3 : List Nat), Dn v d1.V X0 p0 q0 z0 → Dn v d2.V X1 p1 q1 z1 → Dn v d5.V X2 p2 q2 z2 → Dn v d5.V X3 p3 q3 z3 → Calls Tryd.prog 21 #[.agg #[.bool d1.neg, .slice X0 p0 q0, .int .i64 d1.e, .bool d2.neg, .slice X1 p1 q1, .int .i64 d2.e], .agg #[.bool d5.neg, .slice X2 p2 q2, .int .i64 d5.e, .bool d5.neg, .slice X3 p3 q3, .int .i64 d5.e]] v (EndsN v 601 loA hiA))
  EB : (∀ (v : World) (X0 : Option Addr) (p0 q0 : Nat) (z0 : List Nat) (X1 : Option Addr) (p1 q1 : Nat) (z1 : List Nat) (X2 : Option Addr) (p2 q2 : Nat) (z2 : List Nat) (X3 : Option Addr) (p3 q3 : Nat) (z3 : List Nat), Dn v d1.V X0 p0 q0 z0 → Dn v d2.V X1 p1 q1 z1 → Dn v d3.V X2 p2 q2 z2 → Dn v d4.V X3 p3 q3 z3 → Calls Tryd.prog 21 #[.agg #[.bool d1.neg, .slice X0 p0 q0, .int .i64 d1.e, .bool d2.neg, .slice X1 p1 q1, .int .i64 d2.e], .agg #[.bool d3.neg, .slice X2 p2 q2, .int .i64 d3.e, .bool d4.neg, .slice X3 p3 q3, .int .i64 d4.e]] v (EndsN v 601 loB hiB))
  S1 : Sums d1 d3 s1 o1
  S2 : Sums d2 d4 s2 o2
  S3 : Sums d2 ⟨!d1.neg, d1.V, d1.e⟩ z oz
  HSp : Sp 4000 s1 ∧ Sp 4000 s2 ∧ Sp 4000 z
  F0 : v1 = false → rs = 1 ∧ rm = 1 ∧ rt = 1 ∧ rw = 1 ∧ (∀ X Y m n, QS X Y m n → n = 0) ∧ (∀ X Y m n, QT X Y m n → m = 0) ∧ (∀ X m, QW X m → m = 0)
  F1 : v1 = true → rt = 0 ∧ rw = 0 ∧ (∀ X Y m n, QT X Y m n → (Sp 9000 X ∧ Sp 9000 Y) ∧ dwD X = loA ∧ dwD Y = hiA) ∧ (∀ X m, QW X m → X = z)
  F2 : v2 = false → rs = 1 ∧ rm = 1 ∧ (∀ X Y m n, QM X Y m n → m = 0)
  F3 : v1 = true → v2 = true → rs = 0 ∧ rm = 0 ∧ (∀ X Y m n, QS X Y m n → X = s1 ∧ Y = s2) ∧ (∀ X Y m n, QM X Y m n → (Sp 9000 X ∧ Sp 9000 Y) ∧ dwD X = loB ∧ dwD Y = hiB)

set_option maxHeartbeats 16000000 in
set_option maxRecDepth 20000 in
theorem ivtells_core (v1 v2 b1 b2 b3 b4 has ins : Bool) (rs rm rt rw loA hiA loB hiB : Int) (QS QM QT : Dy → Dy → Nat → Nat → Prop) (QW : Dy → Nat → Prop) (d1 d2 d3 d4 d5 s1 s2 z o1 o2 oz : Dy) (g1 : Bool) (A1 : Option Addr) (n1 c1 : Nat) (xs1 : List Nat) (e1 : Int) (g2 : Bool) (A2 : Option Addr) (n2 c2 : Nat) (xs2 : List Nat) (e2 : Int) (g3 : Bool) (A3 : Option Addr) (n3 c3 : Nat) (xs3 : List Nat) (e3 : Int) (g4 : Bool) (A4 : Option Addr) (n4 c4 : Nat) (xs4 : List Nat) (e4 : Int) (g5 : Bool) (A5 : Option Addr) (n5 c5 : Nat) (xs5 : List Nat) (e5 : Int) (w : World) (l : Lims5 A1 n1 c1 xs1 A2 n2 c2 xs2 A3 n3 c3 xs3 A4 n4 c4 xs4 A5 n5 c5 xs5 w) (HX : Hid (TellC v1 v2 b1 b2 b3 b4 has ins rs rm rt rw loA hiA loB hiB QS QM QT QW d1 d2 d3 d4 d5 s1 s2 z o1 o2 oz g1 A1 n1 c1 xs1 e1 g2 A2 n2 c2 xs2 e2 g3 A3 n3 c3 xs3 e3 g4 A4 n4 c4 xs4 e4 g5 A5 n5 c5 xs5 e5)) :
    Calls Tryd.prog 3 #[.agg #[.bool g1, .slice A1 n1 c1, .int .i64 e1, .bool g2, .slice A2 n2 c2, .int .i64 e2], .agg #[.bool g3, .slice A3 n3 c3, .int .i64 e3, .bool g4, .slice A4 n4 c4, .int .i64 e4], .agg #[.bool g5, .slice A5 n5 c5, .int .i64 e5]] w fun e w' => e = .returned (.bool true) ∧ Below w.heap.size w w' := by
  have HT := Lib.hid l.2.2.2.2.2
  have HS := Lib.hid (Below.refl w.heap.size w)
  have HL : Hid (Lims5 A1 n1 c1 xs1 A2 n2 c2 xs2 A3 n3 c3 xs3 A4 n4 c4 xs4 A5 n5 c5 xs5 w) := l
  clear l
  have ba := below1 w (.cells #[.bool g1, .slice A1 n1 c1, .int .i64 e1, .bool g2, .slice A2 n2 c2, .int .i64 e2] 26)
  replace HT : Hid (Tab (w.alloc (.cells #[.bool g1, .slice A1 n1 c1, .int .i64 e1, .bool g2, .slice A2 n2 c2, .int .i64 e2] 26))) := HT.out.below ba
  replace HL : Hid (Lims5 A1 n1 c1 xs1 A2 n2 c2 xs2 A3 n3 c3 xs3 A4 n4 c4 xs4 A5 n5 c5 xs5 (w.alloc (.cells #[.bool g1, .slice A1 n1 c1, .int .i64 e1, .bool g2, .slice A2 n2 c2, .int .i64 e2] 26))) := HL.out.below ba
  replace HS := Lib.hid (HS.out.trans (ba.mono HS.out.size))
  clear ba
  have Ja : Hid (Jb (w.alloc (.cells #[.bool g1, .slice A1 n1 c1, .int .i64 e1, .bool g2, .slice A2 n2 c2, .int .i64 e2] 26)) w.heap.size g1 A1 n1 c1 e1 g2 A2 n2 c2 e2) := Jb.new w g1 A1 n1 c1 e1 g2 A2 n2 c2 e2
  have ba := below1 (w.alloc (.cells #[.bool g1, .slice A1 n1 c1, .int .i64 e1, .bool g2, .slice A2 n2 c2, .int .i64 e2] 26)) (.cells #[.bool g3, .slice A3 n3 c3, .int .i64 e3, .bool g4, .slice A4 n4 c4, .int .i64 e4] 26)
  replace HT : Hid (Tab ((w.alloc (.cells #[.bool g1, .slice A1 n1 c1, .int .i64 e1, .bool g2, .slice A2 n2 c2, .int .i64 e2] 26)).alloc (.cells #[.bool g3, .slice A3 n3 c3, .int .i64 e3, .bool g4, .slice A4 n4 c4, .int .i64 e4] 26))) := HT.out.below ba
  replace HL : Hid (Lims5 A1 n1 c1 xs1 A2 n2 c2 xs2 A3 n3 c3 xs3 A4 n4 c4 xs4 A5 n5 c5 xs5 ((w.alloc (.cells #[.bool g1, .slice A1 n1 c1, .int .i64 e1, .bool g2, .slice A2 n2 c2, .int .i64 e2] 26)).alloc (.cells #[.bool g3, .slice A3 n3 c3, .int .i64 e3, .bool g4, .slice A4 n4 c4, .int .i64 e4] 26))) := HL.out.below ba
  replace Ja : Hid (Jb ((w.alloc (.cells #[.bool g1, .slice A1 n1 c1, .int .i64 e1, .bool g2, .slice A2 n2 c2, .int .i64 e2] 26)).alloc (.cells #[.bool g3, .slice A3 n3 c3, .int .i64 e3, .bool g4, .slice A4 n4 c4, .int .i64 e4] 26)) w.heap.size g1 A1 n1 c1 e1 g2 A2 n2 c2 e2) := Ja.out.below ba
  replace HS := Lib.hid (HS.out.trans (ba.mono HS.out.size))
  clear ba
  have Jk : Hid (Jb ((w.alloc (.cells #[.bool g1, .slice A1 n1 c1, .int .i64 e1, .bool g2, .slice A2 n2 c2, .int .i64 e2] 26)).alloc (.cells #[.bool g3, .slice A3 n3 c3, .int .i64 e3, .bool g4, .slice A4 n4 c4, .int .i64 e4] 26)) (w.heap.size + 1) g3 A3 n3 c3 e3 g4 A4 n4 c4 e4) := (by have h := Jb.new (w.alloc (.cells #[.bool g1, .slice A1 n1 c1, .int .i64 e1, .bool g2, .slice A2 n2 c2, .int .i64 e2] 26)) g3 A3 n3 c3 e3 g4 A4 n4 c4 e4; rw [World.size_alloc] at h; exact h)
  have ba := below1 ((w.alloc (.cells #[.bool g1, .slice A1 n1 c1, .int .i64 e1, .bool g2, .slice A2 n2 c2, .int .i64 e2] 26)).alloc (.cells #[.bool g3, .slice A3 n3 c3, .int .i64 e3, .bool g4, .slice A4 n4 c4, .int .i64 e4] 26)) (.cells #[.bool g5, .slice A5 n5 c5, .int .i64 e5] 24)
  replace HT : Hid (Tab (((w.alloc (.cells #[.bool g1, .slice A1 n1 c1, .int .i64 e1, .bool g2, .slice A2 n2 c2, .int .i64 e2] 26)).alloc (.cells #[.bool g3, .slice A3 n3 c3, .int .i64 e3, .bool g4, .slice A4 n4 c4, .int .i64 e4] 26)).alloc (.cells #[.bool g5, .slice A5 n5 c5, .int .i64 e5] 24))) := HT.out.below ba
  replace HL : Hid (Lims5 A1 n1 c1 xs1 A2 n2 c2 xs2 A3 n3 c3 xs3 A4 n4 c4 xs4 A5 n5 c5 xs5 (((w.alloc (.cells #[.bool g1, .slice A1 n1 c1, .int .i64 e1, .bool g2, .slice A2 n2 c2, .int .i64 e2] 26)).alloc (.cells #[.bool g3, .slice A3 n3 c3, .int .i64 e3, .bool g4, .slice A4 n4 c4, .int .i64 e4] 26)).alloc (.cells #[.bool g5, .slice A5 n5 c5, .int .i64 e5] 24))) := HL.out.below ba
  replace Ja : Hid (Jb (((w.alloc (.cells #[.bool g1, .slice A1 n1 c1, .int .i64 e1, .bool g2, .slice A2 n2 c2, .int .i64 e2] 26)).alloc (.cells #[.bool g3, .slice A3 n3 c3, .int .i64 e3, .bool g4, .slice A4 n4 c4, .int .i64 e4] 26)).alloc (.cells #[.bool g5, .slice A5 n5 c5, .int .i64 e5] 24)) w.heap.size g1 A1 n1 c1 e1 g2 A2 n2 c2 e2) := Ja.out.below ba
  replace Jk : Hid (Jb (((w.alloc (.cells #[.bool g1, .slice A1 n1 c1, .int .i64 e1, .bool g2, .slice A2 n2 c2, .int .i64 e2] 26)).alloc (.cells #[.bool g3, .slice A3 n3 c3, .int .i64 e3, .bool g4, .slice A4 n4 c4, .int .i64 e4] 26)).alloc (.cells #[.bool g5, .slice A5 n5 c5, .int .i64 e5] 24)) (w.heap.size + 1) g3 A3 n3 c3 e3 g4 A4 n4 c4 e4) := Jk.out.below ba
  replace HS := Lib.hid (HS.out.trans (ba.mono HS.out.size))
  clear ba
  have Jd : Hid (Bd (((w.alloc (.cells #[.bool g1, .slice A1 n1 c1, .int .i64 e1, .bool g2, .slice A2 n2 c2, .int .i64 e2] 26)).alloc (.cells #[.bool g3, .slice A3 n3 c3, .int .i64 e3, .bool g4, .slice A4 n4 c4, .int .i64 e4] 26)).alloc (.cells #[.bool g5, .slice A5 n5 c5, .int .i64 e5] 24)) (w.heap.size + 1 + 1) 24 g5 A5 n5 c5 e5) := (by have h := Bd.new ((w.alloc (.cells #[.bool g1, .slice A1 n1 c1, .int .i64 e1, .bool g2, .slice A2 n2 c2, .int .i64 e2] 26)).alloc (.cells #[.bool g3, .slice A3 n3 c3, .int .i64 e3, .bool g4, .slice A4 n4 c4, .int .i64 e4] 26)) 24 g5 A5 n5 c5 e5; rw [World.size_alloc, World.size_alloc] at h; exact h)
  have K := Lib.hid (ivalive_any (((w.alloc (.cells #[.bool g1, .slice A1 n1 c1, .int .i64 e1, .bool g2, .slice A2 n2 c2, .int .i64 e2] 26)).alloc (.cells #[.bool g3, .slice A3 n3 c3, .int .i64 e3, .bool g4, .slice A4 n4 c4, .int .i64 e4] 26)).alloc (.cells #[.bool g5, .slice A5 n5 c5, .int .i64 e5] 24)) HT.out)
  go_enter Tryd.func3, Tryd.ntmps3
  go_wp2_with fail
  refine K.out.mono ?_
  rintro e w1 ⟨rfl, hB⟩
  replace HT : Hid (Tab w1) := HT.out.below hB
  replace HL : Hid (Lims5 A1 n1 c1 xs1 A2 n2 c2 xs2 A3 n3 c3 xs3 A4 n4 c4 xs4 A5 n5 c5 xs5 w1) := HL.out.below hB
  replace Ja : Hid (Jb w1 w.heap.size g1 A1 n1 c1 e1 g2 A2 n2 c2 e2) := Ja.out.below hB
  replace Jk : Hid (Jb w1 (w.heap.size + 1) g3 A3 n3 c3 e3 g4 A4 n4 c4 e4) := Jk.out.below hB
  replace Jd : Hid (Bd w1 (w.heap.size + 1 + 1) 24 g5 A5 n5 c5 e5) := Jd.out.below hB
  replace HS := Lib.hid (HS.out.trans (hB.mono HS.out.size))
  clear hB K
  have Ja_0 := Ja.out.x0
  have Ja_1 := Ja.out.x1
  have Ja_2 := Ja.out.x2
  have Ja_3 := Ja.out.x3
  have Ja_4 := Ja.out.x4
  have Ja_5 := Ja.out.x5
  have Jk_0 := Jk.out.x0
  have Jk_1 := Jk.out.x1
  have Jk_2 := Jk.out.x2
  have Jk_3 := Jk.out.x3
  have Jk_4 := Jk.out.x4
  have Jk_5 := Jk.out.x5
  have Jd_0 := Jd.out.c0
  have Jd_1 := Jd.out.c1
  have Jd_2 := Jd.out.c2
  have K := Lib.hid (near15_l true g1 A1 n1 c1 e1 g2 A2 n2 c2 e2 w1 (Lib.hid HX.out.HVA))
  go_wp2_with fail
  refine K.out.mono ?_
  rintro e w2 ⟨rfl, hB⟩
  clear Ja_0 Ja_1 Ja_2 Ja_3 Ja_4 Ja_5 Jk_0 Jk_1 Jk_2 Jk_3 Jk_4 Jk_5 Jd_0 Jd_1 Jd_2
  replace HT : Hid (Tab w2) := HT.out.below hB
  replace HL : Hid (Lims5 A1 n1 c1 xs1 A2 n2 c2 xs2 A3 n3 c3 xs3 A4 n4 c4 xs4 A5 n5 c5 xs5 w2) := HL.out.below hB
  replace Ja : Hid (Jb w2 w.heap.size g1 A1 n1 c1 e1 g2 A2 n2 c2 e2) := Ja.out.below hB
  replace Jk : Hid (Jb w2 (w.heap.size + 1) g3 A3 n3 c3 e3 g4 A4 n4 c4 e4) := Jk.out.below hB
  replace Jd : Hid (Bd w2 (w.heap.size + 1 + 1) 24 g5 A5 n5 c5 e5) := Jd.out.below hB
  replace HS := Lib.hid (HS.out.trans (hB.mono HS.out.size))
  clear hB K
  have Ja_0 := Ja.out.x0
  have Ja_1 := Ja.out.x1
  have Ja_2 := Ja.out.x2
  have Ja_3 := Ja.out.x3
  have Ja_4 := Ja.out.x4
  have Ja_5 := Ja.out.x5
  have Jk_0 := Jk.out.x0
  have Jk_1 := Jk.out.x1
  have Jk_2 := Jk.out.x2
  have Jk_3 := Jk.out.x3
  have Jk_4 := Jk.out.x4
  have Jk_5 := Jk.out.x5
  have Jd_0 := Jd.out.c0
  have Jd_1 := Jd.out.c1
  have Jd_2 := Jd.out.c2
  have K := Lib.hid (near15_l true g3 A3 n3 c3 e3 g4 A4 n4 c4 e4 w2 (Lib.hid HX.out.HVB))
  go_wp2_with fail
  refine K.out.mono ?_
  rintro e w3 ⟨rfl, hB⟩
  clear Ja_0 Ja_1 Ja_2 Ja_3 Ja_4 Ja_5 Jk_0 Jk_1 Jk_2 Jk_3 Jk_4 Jk_5 Jd_0 Jd_1 Jd_2
  replace HT : Hid (Tab w3) := HT.out.below hB
  replace HL : Hid (Lims5 A1 n1 c1 xs1 A2 n2 c2 xs2 A3 n3 c3 xs3 A4 n4 c4 xs4 A5 n5 c5 xs5 w3) := HL.out.below hB
  replace Ja : Hid (Jb w3 w.heap.size g1 A1 n1 c1 e1 g2 A2 n2 c2 e2) := Ja.out.below hB
  replace Jk : Hid (Jb w3 (w.heap.size + 1) g3 A3 n3 c3 e3 g4 A4 n4 c4 e4) := Jk.out.below hB
  replace Jd : Hid (Bd w3 (w.heap.size + 1 + 1) 24 g5 A5 n5 c5 e5) := Jd.out.below hB
  replace HS := Lib.hid (HS.out.trans (hB.mono HS.out.size))
  clear hB K
  have Ja_0 := Ja.out.x0
  have Ja_1 := Ja.out.x1
  have Ja_2 := Ja.out.x2
  have Ja_3 := Ja.out.x3
  have Ja_4 := Ja.out.x4
  have Ja_5 := Ja.out.x5
  have Jk_0 := Jk.out.x0
  have Jk_1 := Jk.out.x1
  have Jk_2 := Jk.out.x2
  have Jk_3 := Jk.out.x3
  have Jk_4 := Jk.out.x4
  have Jk_5 := Jk.out.x5
  have Jd_0 := Jd.out.c0
  have Jd_1 := Jd.out.c1
  have Jd_2 := Jd.out.c2
  have K := Lib.hid (near15_l true g5 A5 n5 c5 e5 g5 A5 n5 c5 e5 w3 (Lib.hid HX.out.HVC))
  go_wp2_with fail
  refine K.out.mono ?_
  rintro e w4 ⟨rfl, hB⟩
  clear Ja_0 Ja_1 Ja_2 Ja_3 Ja_4 Ja_5 Jk_0 Jk_1 Jk_2 Jk_3 Jk_4 Jk_5 Jd_0 Jd_1 Jd_2
  replace HT : Hid (Tab w4) := HT.out.below hB
  replace HL : Hid (Lims5 A1 n1 c1 xs1 A2 n2 c2 xs2 A3 n3 c3 xs3 A4 n4 c4 xs4 A5 n5 c5 xs5 w4) := HL.out.below hB
  replace Ja : Hid (Jb w4 w.heap.size g1 A1 n1 c1 e1 g2 A2 n2 c2 e2) := Ja.out.below hB
  replace Jk : Hid (Jb w4 (w.heap.size + 1) g3 A3 n3 c3 e3 g4 A4 n4 c4 e4) := Jk.out.below hB
  replace Jd : Hid (Bd w4 (w.heap.size + 1 + 1) 24 g5 A5 n5 c5 e5) := Jd.out.below hB
  replace HS := Lib.hid (HS.out.trans (hB.mono HS.out.size))
  clear hB K
  have Ja_0 := Ja.out.x0
  have Ja_1 := Ja.out.x1
  have Ja_2 := Ja.out.x2
  have Ja_3 := Ja.out.x3
  have Ja_4 := Ja.out.x4
  have Ja_5 := Ja.out.x5
  have Jk_0 := Jk.out.x0
  have Jk_1 := Jk.out.x1
  have Jk_2 := Jk.out.x2
  have Jk_3 := Jk.out.x3
  have Jk_4 := Jk.out.x4
  have Jk_5 := Jk.out.x5
  have Jd_0 := Jd.out.c0
  have Jd_1 := Jd.out.c1
  have Jd_2 := Jd.out.c2
  clear Ja_0 Ja_1 Ja_2 Ja_3 Ja_4 Ja_5 Jk_0 Jk_1 Jk_2 Jk_3 Jk_4 Jk_5 Jd_0 Jd_1 Jd_2
  have CA : Hid (∀ v, Below w4.heap.size w4 v → Calls Tryd.prog 9 #[.agg #[.bool g1, .slice A1 n1 c1, .int .i64 e1]] v (NTold v d1 40)) := fun v hs => of_near g1 A1 n1 c1 xs1 e1 v (HL.out.1.below hs) (of_decide_eq_true HX.out.HVA).1.1 HX.out.N1.1
  have CB : Hid (∀ v, Below w4.heap.size w4 v → Calls Tryd.prog 9 #[.agg #[.bool g2, .slice A2 n2 c2, .int .i64 e2]] v (NTold v d2 40)) := fun v hs => of_near g2 A2 n2 c2 xs2 e2 v (HL.out.2.1.below hs) (of_decide_eq_true HX.out.HVA).2.1 HX.out.N2.1
  have KEEP : Hid (∀ v, Below w4.heap.size w4 v → v.cell? ⟨w.heap.size, 0, none⟩ = some (.bool g1) ∧ v.cell? ⟨w.heap.size, 1, none⟩ = some (.slice A1 n1 c1) ∧ v.cell? ⟨w.heap.size, 2, none⟩ = some (.int .i64 e1) ∧ v.cell? ⟨w.heap.size, 3, none⟩ = some (.bool g2) ∧ v.cell? ⟨w.heap.size, 4, none⟩ = some (.slice A2 n2 c2) ∧ v.cell? ⟨w.heap.size, 5, none⟩ = some (.int .i64 e2)) := fun v hv => ⟨(Ja.out.below hv).x0, (Ja.out.below hv).x1, (Ja.out.below hv).x2, (Ja.out.below hv).x3, (Ja.out.below hv).x4, (Ja.out.below hv).x5⟩
  have cur := Lib.hid ((HoldUN.start w4).below (below_drew _))
  have F1x := Lib.hid ((HoldUN.start w4).one.below (below_drew _))
  go_wp2_with fail
  go_cut [7] from 26 to 49 (fun s13 wx => ∃ (p4 : Nat) (Aa : Option Addr) (ma ca : Nat) (za : List Nat) (Ab : Option Addr) (mb cb : Nat) (zb : List Nat), s13 = .pointer (some ⟨p4, 0, none⟩) ∧ Hid (RelNI w4 p4 d1.neg Aa ma ca d1.e d1.V za d2.neg Ab mb cb d2.e d2.V zb wx))
  case first =>
    clear HX HS HT HL Ja Jk Jd
    go_region_held3 (fun v => v.cell? ⟨w.heap.size, 0, none⟩ = some (.bool g1) ∧ v.cell? ⟨w.heap.size, 1, none⟩ = some (.slice A1 n1 c1) ∧ v.cell? ⟨w.heap.size, 2, none⟩ = some (.int .i64 e1) ∧ v.cell? ⟨w.heap.size, 3, none⟩ = some (.bool g2) ∧ v.cell? ⟨w.heap.size, 4, none⟩ = some (.slice A2 n2 c2) ∧ v.cell? ⟨w.heap.size, 5, none⟩ = some (.int .i64 e2)) (first | (with_reducible exact KEEP.out _ cur.out.old) | (with_reducible exact KEEP.out _ F1x.out.old) | (with_reducible exact KEEP.out _ (cur.out.a1 _)) | (with_reducible exact KEEP.out _ (cur.out.at1 _ _ _ _ _ _ _ _ _ _)))
      (first
        | (go_at_call 9; (with_reducible refine (CA.out _ (by first | (with_reducible exact cur.out.old) | (with_reducible exact F1x.out.old) | (with_reducible exact cur.out.a1 _))).mono ?_); rintro e u1 ⟨Aa, ma', ca, za, rfl, hma, hl1, hb1, hv1, hB1⟩; (first | (with_reducible (replace cur := Lib.hid (cur.out.below hB1))) | (with_reducible (replace cur := Lib.hid (cur.out.one.below hB1))) | (with_reducible (replace cur := Lib.hid (F1x.out.below hB1)))); have L1 : Hid (Dn u1 d1.V Aa ma' ca za) := ⟨hl1, hb1, hma, hv1⟩; clear hl1 hb1 hv1 hB1; (first | (have kx := cur.out.first; have x0 := kx.x0; have x1 := kx.x1; have x2 := kx.x2; have x3 := kx.x3; have x4 := kx.x4; have x5 := kx.x5; have xf := kx.fz; have xl := kx.lt; clear kx) | skip))
        | (go_at_call 9; (with_reducible refine (CB.out _ (by first | (with_reducible exact cur.out.old) | (with_reducible exact F1x.out.old) | (with_reducible exact cur.out.a1 _))).mono ?_); rintro e u2 ⟨Ab, mb', cb, zb, rfl, hmb, hl2, hb2, hv2, hB2⟩; (first | (with_reducible (replace L1 := Lib.hid (L1.out.below hB2))) | (with_reducible (replace L1 := Lib.hid ((L1.out.below (below1 _ (.cells #[.bool false, .slice none 0 0, .int .i64 0, .bool false, .slice none 0 0, .int .i64 0] 34))).below hB2)))); (first | (with_reducible (replace cur := Lib.hid (cur.out.below hB2))) | (with_reducible (replace cur := Lib.hid (cur.out.one.below hB2))) | (with_reducible (replace cur := Lib.hid (F1x.out.below hB2)))); have L2 : Hid (Dn u2 d2.V Ab mb' cb zb) := ⟨hl2, hb2, hmb, hv2⟩; clear hl2 hb2 hv2 hB2; (first | (have kx := cur.out.first; have x0 := kx.x0; have x1 := kx.x1; have x2 := kx.x2; have x3 := kx.x3; have x4 := kx.x4; have x5 := kx.x5; have xf := kx.fz; have xl := kx.lt; clear kx) | skip)))
    all_goals (go_wp2_with fail)
    all_goals go_meet
    all_goals (refine ⟨_, Aa, ma', ca, za, Ab, mb', cb, zb, rfl, ?_⟩)
    all_goals (first
      | (have t := RelNI.last (e1 := d1.e) (g1 := d1.neg) (e2 := d2.e) (g2 := d2.neg) cur.out L1.out L2.out; (with_reducible exact Lib.hid t))
      | (have t := RelNI.ahead (e1 := d1.e) (g1 := d1.neg) (e2 := d2.e) (g2 := d2.neg) cur.out L1.out L2.out; (with_reducible exact Lib.hid t)))
  case rest =>
    clear cur F1x KEEP CA CB
    obtain ⟨ur5, rfl⟩ : ∃ u, u = wc := ⟨_, rfl⟩
    obtain ⟨pi, AD1, mD1, cD1, zD1, AD2, mD2, cD2, zD2, rfl, HRx⟩ := hcut
    have hB := HRx.out.1
    replace HT : Hid (Tab ur5) := HT.out.below hB
    replace HL : Hid (Lims5 A1 n1 c1 xs1 A2 n2 c2 xs2 A3 n3 c3 xs3 A4 n4 c4 xs4 A5 n5 c5 xs5 ur5) := HL.out.below hB
    replace Ja : Hid (Jb ur5 w.heap.size g1 A1 n1 c1 e1 g2 A2 n2 c2 e2) := Ja.out.below hB
    replace Jk : Hid (Jb ur5 (w.heap.size + 1) g3 A3 n3 c3 e3 g4 A4 n4 c4 e4) := Jk.out.below hB
    replace Jd : Hid (Bd ur5 (w.heap.size + 1 + 1) 24 g5 A5 n5 c5 e5) := Jd.out.below hB
    replace HS := Lib.hid (HS.out.trans (hB.mono HS.out.size))
    have HNi : Hid (Sb ur5 pi 34 d1.neg AD1 mD1 cD1 d1.e d2.neg AD2 mD2 cD2 d2.e) := HRx.out.2.1
    have D1 : Hid (Dn ur5 d1.V AD1 mD1 cD1 zD1) := HRx.out.2.2.1
    have D2 : Hid (Dn ur5 d2.V AD2 mD2 cD2 zD2) := HRx.out.2.2.2
    clear HRx hB
    have CA : Hid (∀ v, Below ur5.heap.size ur5 v → Calls Tryd.prog 9 #[.agg #[.bool g3, .slice A3 n3 c3, .int .i64 e3]] v (NTold v d3 40)) := fun v hs => of_near g3 A3 n3 c3 xs3 e3 v (HL.out.2.2.1.below hs) (of_decide_eq_true HX.out.HVB).1.1 HX.out.N3.1
    have CB : Hid (∀ v, Below ur5.heap.size ur5 v → Calls Tryd.prog 9 #[.agg #[.bool g4, .slice A4 n4 c4, .int .i64 e4]] v (NTold v d4 40)) := fun v hs => of_near g4 A4 n4 c4 xs4 e4 v (HL.out.2.2.2.1.below hs) (of_decide_eq_true HX.out.HVB).2.1 HX.out.N4.1
    have KEEP : Hid (∀ v, Below ur5.heap.size ur5 v → v.cell? ⟨(w.heap.size + 1), 0, none⟩ = some (.bool g3) ∧ v.cell? ⟨(w.heap.size + 1), 1, none⟩ = some (.slice A3 n3 c3) ∧ v.cell? ⟨(w.heap.size + 1), 2, none⟩ = some (.int .i64 e3) ∧ v.cell? ⟨(w.heap.size + 1), 3, none⟩ = some (.bool g4) ∧ v.cell? ⟨(w.heap.size + 1), 4, none⟩ = some (.slice A4 n4 c4) ∧ v.cell? ⟨(w.heap.size + 1), 5, none⟩ = some (.int .i64 e4)) := fun v hv => ⟨(Jk.out.below hv).x0, (Jk.out.below hv).x1, (Jk.out.below hv).x2, (Jk.out.below hv).x3, (Jk.out.below hv).x4, (Jk.out.below hv).x5⟩
    have cur := Lib.hid ((HoldUN.start ur5).below (below_drew _))
    have F1x := Lib.hid ((HoldUN.start ur5).one.below (below_drew _))
    go_wp2_with fail
    go_cut [8] from 50 to 56 (fun s13 wx => ∃ (p4 : Nat) (Aa : Option Addr) (ma ca : Nat) (za : List Nat) (Ab : Option Addr) (mb cb : Nat) (zb : List Nat), s13 = .pointer (some ⟨p4, 0, none⟩) ∧ Hid (RelNI ur5 p4 d3.neg Aa ma ca d3.e d3.V za d4.neg Ab mb cb d4.e d4.V zb wx))
    case first =>
      clear HX HS HT HL Ja Jk Jd HNi D1 D2
      go_region_held3 (fun v => v.cell? ⟨(w.heap.size + 1), 0, none⟩ = some (.bool g3) ∧ v.cell? ⟨(w.heap.size + 1), 1, none⟩ = some (.slice A3 n3 c3) ∧ v.cell? ⟨(w.heap.size + 1), 2, none⟩ = some (.int .i64 e3) ∧ v.cell? ⟨(w.heap.size + 1), 3, none⟩ = some (.bool g4) ∧ v.cell? ⟨(w.heap.size + 1), 4, none⟩ = some (.slice A4 n4 c4) ∧ v.cell? ⟨(w.heap.size + 1), 5, none⟩ = some (.int .i64 e4)) (first | (with_reducible exact KEEP.out _ cur.out.old) | (with_reducible exact KEEP.out _ F1x.out.old) | (with_reducible exact KEEP.out _ (cur.out.a1 _)) | (with_reducible exact KEEP.out _ (cur.out.at1 _ _ _ _ _ _ _ _ _ _)))
        (first
          | (go_at_call 9; (with_reducible refine (CA.out _ (by first | (with_reducible exact cur.out.old) | (with_reducible exact F1x.out.old) | (with_reducible exact cur.out.a1 _))).mono ?_); rintro e u1 ⟨Aa, ma', ca, za, rfl, hma, hl1, hb1, hv1, hB1⟩; (first | (with_reducible (replace cur := Lib.hid (cur.out.below hB1))) | (with_reducible (replace cur := Lib.hid (cur.out.one.below hB1))) | (with_reducible (replace cur := Lib.hid (F1x.out.below hB1)))); have L1 : Hid (Dn u1 d3.V Aa ma' ca za) := ⟨hl1, hb1, hma, hv1⟩; clear hl1 hb1 hv1 hB1; (first | (have kx := cur.out.first; have x0 := kx.x0; have x1 := kx.x1; have x2 := kx.x2; have x3 := kx.x3; have x4 := kx.x4; have x5 := kx.x5; have xf := kx.fz; have xl := kx.lt; clear kx) | skip))
          | (go_at_call 9; (with_reducible refine (CB.out _ (by first | (with_reducible exact cur.out.old) | (with_reducible exact F1x.out.old) | (with_reducible exact cur.out.a1 _))).mono ?_); rintro e u2 ⟨Ab, mb', cb, zb, rfl, hmb, hl2, hb2, hv2, hB2⟩; (first | (with_reducible (replace L1 := Lib.hid (L1.out.below hB2))) | (with_reducible (replace L1 := Lib.hid ((L1.out.below (below1 _ (.cells #[.bool false, .slice none 0 0, .int .i64 0, .bool false, .slice none 0 0, .int .i64 0] 34))).below hB2)))); (first | (with_reducible (replace cur := Lib.hid (cur.out.below hB2))) | (with_reducible (replace cur := Lib.hid (cur.out.one.below hB2))) | (with_reducible (replace cur := Lib.hid (F1x.out.below hB2)))); have L2 : Hid (Dn u2 d4.V Ab mb' cb zb) := ⟨hl2, hb2, hmb, hv2⟩; clear hl2 hb2 hv2 hB2; (first | (have kx := cur.out.first; have x0 := kx.x0; have x1 := kx.x1; have x2 := kx.x2; have x3 := kx.x3; have x4 := kx.x4; have x5 := kx.x5; have xf := kx.fz; have xl := kx.lt; clear kx) | skip)))
      all_goals (go_wp2_with fail)
      all_goals go_meet
      all_goals (refine ⟨_, Aa, ma', ca, za, Ab, mb', cb, zb, rfl, ?_⟩)
      all_goals (first
        | (have t := RelNI.last (e1 := d3.e) (g1 := d3.neg) (e2 := d4.e) (g2 := d4.neg) cur.out L1.out L2.out; (with_reducible exact Lib.hid t))
        | (have t := RelNI.ahead (e1 := d3.e) (g1 := d3.neg) (e2 := d4.e) (g2 := d4.neg) cur.out L1.out L2.out; (with_reducible exact Lib.hid t)))
    case rest =>
      clear cur F1x KEEP CA CB
      obtain ⟨ur6, rfl⟩ : ∃ u, u = wc := ⟨_, rfl⟩
      obtain ⟨pk, AD3, mD3, cD3, zD3, AD4, mD4, cD4, zD4, rfl, HRx⟩ := hcut
      have hB := HRx.out.1
      replace HT : Hid (Tab ur6) := HT.out.below hB
      replace HL : Hid (Lims5 A1 n1 c1 xs1 A2 n2 c2 xs2 A3 n3 c3 xs3 A4 n4 c4 xs4 A5 n5 c5 xs5 ur6) := HL.out.below hB
      replace Ja : Hid (Jb ur6 w.heap.size g1 A1 n1 c1 e1 g2 A2 n2 c2 e2) := Ja.out.below hB
      replace Jk : Hid (Jb ur6 (w.heap.size + 1) g3 A3 n3 c3 e3 g4 A4 n4 c4 e4) := Jk.out.below hB
      replace Jd : Hid (Bd ur6 (w.heap.size + 1 + 1) 24 g5 A5 n5 c5 e5) := Jd.out.below hB
      replace HNi : Hid (Sb ur6 pi 34 d1.neg AD1 mD1 cD1 d1.e d2.neg AD2 mD2 cD2 d2.e) := HNi.out.below hB
      replace D1 : Hid (Dn ur6 d1.V AD1 mD1 cD1 zD1) := D1.out.below hB
      replace D2 : Hid (Dn ur6 d2.V AD2 mD2 cD2 zD2) := D2.out.below hB
      replace HS := Lib.hid (HS.out.trans (hB.mono HS.out.size))
      have HNk : Hid (Sb ur6 pk 34 d3.neg AD3 mD3 cD3 d3.e d4.neg AD4 mD4 cD4 d4.e) := HRx.out.2.1
      have D3 : Hid (Dn ur6 d3.V AD3 mD3 cD3 zD3) := HRx.out.2.2.1
      have D4 : Hid (Dn ur6 d4.V AD4 mD4 cD4 zD4) := HRx.out.2.2.2
      clear HRx hB
      have K := Lib.hid (of_near g5 A5 n5 c5 xs5 e5 ur6 HL.out.2.2.2.2.1 (of_decide_eq_true HX.out.HVC).1.1 HX.out.N5.1)
      have Jd_0 := Jd.out.c0
      have Jd_1 := Jd.out.c1
      have Jd_2 := Jd.out.c2
      go_wp2_with fail
      refine K.out.mono ?_
      rintro e wn7 ⟨AD5, mD5, cD5, zD5, rfl, hm5, hl5, hb5, hv5, hB⟩
      clear Jd_0 Jd_1 Jd_2
      replace HT : Hid (Tab wn7) := HT.out.below hB
      replace HL : Hid (Lims5 A1 n1 c1 xs1 A2 n2 c2 xs2 A3 n3 c3 xs3 A4 n4 c4 xs4 A5 n5 c5 xs5 wn7) := HL.out.below hB
      replace Ja : Hid (Jb wn7 w.heap.size g1 A1 n1 c1 e1 g2 A2 n2 c2 e2) := Ja.out.below hB
      replace Jk : Hid (Jb wn7 (w.heap.size + 1) g3 A3 n3 c3 e3 g4 A4 n4 c4 e4) := Jk.out.below hB
      replace Jd : Hid (Bd wn7 (w.heap.size + 1 + 1) 24 g5 A5 n5 c5 e5) := Jd.out.below hB
      replace HNi : Hid (Sb wn7 pi 34 d1.neg AD1 mD1 cD1 d1.e d2.neg AD2 mD2 cD2 d2.e) := HNi.out.below hB
      replace D1 : Hid (Dn wn7 d1.V AD1 mD1 cD1 zD1) := D1.out.below hB
      replace D2 : Hid (Dn wn7 d2.V AD2 mD2 cD2 zD2) := D2.out.below hB
      replace HNk : Hid (Sb wn7 pk 34 d3.neg AD3 mD3 cD3 d3.e d4.neg AD4 mD4 cD4 d4.e) := HNk.out.below hB
      replace D3 : Hid (Dn wn7 d3.V AD3 mD3 cD3 zD3) := D3.out.below hB
      replace D4 : Hid (Dn wn7 d4.V AD4 mD4 cD4 zD4) := D4.out.below hB
      replace HS := Lib.hid (HS.out.trans (hB.mono HS.out.size))
      have D5 : Hid (Dn wn7 d5.V AD5 mD5 cD5 zD5) := ⟨hl5, hb5, hm5, hv5⟩
      clear hl5 hb5 hm5 hv5 hB K
      have ba := below1 wn7 (.cells #[.bool d5.neg, .slice AD5 mD5 cD5, .int .i64 d5.e] 31)
      replace HT : Hid (Tab (wn7.alloc (.cells #[.bool d5.neg, .slice AD5 mD5 cD5, .int .i64 d5.e] 31))) := HT.out.below ba
      replace HL : Hid (Lims5 A1 n1 c1 xs1 A2 n2 c2 xs2 A3 n3 c3 xs3 A4 n4 c4 xs4 A5 n5 c5 xs5 (wn7.alloc (.cells #[.bool d5.neg, .slice AD5 mD5 cD5, .int .i64 d5.e] 31))) := HL.out.below ba
      replace Ja : Hid (Jb (wn7.alloc (.cells #[.bool d5.neg, .slice AD5 mD5 cD5, .int .i64 d5.e] 31)) w.heap.size g1 A1 n1 c1 e1 g2 A2 n2 c2 e2) := Ja.out.below ba
      replace Jk : Hid (Jb (wn7.alloc (.cells #[.bool d5.neg, .slice AD5 mD5 cD5, .int .i64 d5.e] 31)) (w.heap.size + 1) g3 A3 n3 c3 e3 g4 A4 n4 c4 e4) := Jk.out.below ba
      replace Jd : Hid (Bd (wn7.alloc (.cells #[.bool d5.neg, .slice AD5 mD5 cD5, .int .i64 d5.e] 31)) (w.heap.size + 1 + 1) 24 g5 A5 n5 c5 e5) := Jd.out.below ba
      replace HNi : Hid (Sb (wn7.alloc (.cells #[.bool d5.neg, .slice AD5 mD5 cD5, .int .i64 d5.e] 31)) pi 34 d1.neg AD1 mD1 cD1 d1.e d2.neg AD2 mD2 cD2 d2.e) := HNi.out.below ba
      replace D1 : Hid (Dn (wn7.alloc (.cells #[.bool d5.neg, .slice AD5 mD5 cD5, .int .i64 d5.e] 31)) d1.V AD1 mD1 cD1 zD1) := D1.out.below ba
      replace D2 : Hid (Dn (wn7.alloc (.cells #[.bool d5.neg, .slice AD5 mD5 cD5, .int .i64 d5.e] 31)) d2.V AD2 mD2 cD2 zD2) := D2.out.below ba
      replace HNk : Hid (Sb (wn7.alloc (.cells #[.bool d5.neg, .slice AD5 mD5 cD5, .int .i64 d5.e] 31)) pk 34 d3.neg AD3 mD3 cD3 d3.e d4.neg AD4 mD4 cD4 d4.e) := HNk.out.below ba
      replace D3 : Hid (Dn (wn7.alloc (.cells #[.bool d5.neg, .slice AD5 mD5 cD5, .int .i64 d5.e] 31)) d3.V AD3 mD3 cD3 zD3) := D3.out.below ba
      replace D4 : Hid (Dn (wn7.alloc (.cells #[.bool d5.neg, .slice AD5 mD5 cD5, .int .i64 d5.e] 31)) d4.V AD4 mD4 cD4 zD4) := D4.out.below ba
      replace D5 : Hid (Dn (wn7.alloc (.cells #[.bool d5.neg, .slice AD5 mD5 cD5, .int .i64 d5.e] 31)) d5.V AD5 mD5 cD5 zD5) := D5.out.below ba
      replace HS := Lib.hid (HS.out.trans (ba.mono HS.out.size))
      clear ba
      have HNn : Hid (Bd (wn7.alloc (.cells #[.bool d5.neg, .slice AD5 mD5 cD5, .int .i64 d5.e] 31)) wn7.heap.size 31 d5.neg AD5 mD5 cD5 d5.e) := Bd.new wn7 31 d5.neg AD5 mD5 cD5 d5.e
      go_wp2_with fail
      generalize hwl : (wn7.alloc (.cells #[.bool d5.neg, .slice AD5 mD5 cD5, .int .i64 d5.e] 31)) = wl8 at HT HL Ja Jk Jd HNi D1 D2 HNk D3 D4 D5 HNn HS ⊢
      clear hwl
      obtain ⟨c12, hc12⟩ : ∃ c, cmpI (dwD d1) (dwD d2) = c := ⟨_, rfl⟩
      have tc12 : decide (c12 ≤ 0) = v1 := by rw [← HX.out.W12, ← hc12]; exact decide_eq_decide.2 cmpI_upto
      have Vc12 := Lib.hid hc12
      clear hc12
      obtain ⟨c34, hc34⟩ : ∃ c, cmpI (dwD d3) (dwD d4) = c := ⟨_, rfl⟩
      have tc34 : decide (c34 ≤ 0) = v2 := by rw [← HX.out.W34, ← hc34]; exact decide_eq_decide.2 cmpI_upto
      have Vc34 := Lib.hid hc34
      clear hc34
      have C12 : Hid (∀ v, Below wl8.heap.size wl8 v → Calls Tryd.prog 10 #[.agg #[.bool d1.neg, .slice AD1 mD1 cD1, .int .i64 d1.e], .agg #[.bool d2.neg, .slice AD2 mD2 cD2, .int .i64 d2.e]] v (fun e w' => e = .returned (.int .i64 c12) ∧ Below v.heap.size v w')) := fun v hs => dn_cmp c12 Vc12 (D1.out.below hs) (D2.out.below hs) HX.out.N1.2.1 HX.out.N2.2.1
      have C34 : Hid (∀ v, Below wl8.heap.size wl8 v → Calls Tryd.prog 10 #[.agg #[.bool d3.neg, .slice AD3 mD3 cD3, .int .i64 d3.e], .agg #[.bool d4.neg, .slice AD4 mD4 cD4, .int .i64 d4.e]] v (fun e w' => e = .returned (.int .i64 c34) ∧ Below v.heap.size v w')) := fun v hs => dn_cmp c34 Vc34 (D3.out.below hs) (D4.out.below hs) HX.out.N3.2.1 HX.out.N4.2.1
      have z0 : ∀ s : WIn (Below wl8.heap.size wl8), s.u.cell? ⟨pi, 0, none⟩ = some (.bool d1.neg) := fun s => (HNi.out.below s.h).x0
      have z1 : ∀ s : WIn (Below wl8.heap.size wl8), s.u.cell? ⟨pi, 1, none⟩ = some (.slice AD1 mD1 cD1) := fun s => (HNi.out.below s.h).x1
      have z2 : ∀ s : WIn (Below wl8.heap.size wl8), s.u.cell? ⟨pi, 2, none⟩ = some (.int .i64 d1.e) := fun s => (HNi.out.below s.h).x2
      have z3 : ∀ s : WIn (Below wl8.heap.size wl8), s.u.cell? ⟨pi, 3, none⟩ = some (.bool d2.neg) := fun s => (HNi.out.below s.h).x3
      have z4 : ∀ s : WIn (Below wl8.heap.size wl8), s.u.cell? ⟨pi, 4, none⟩ = some (.slice AD2 mD2 cD2) := fun s => (HNi.out.below s.h).x4
      have z5 : ∀ s : WIn (Below wl8.heap.size wl8), s.u.cell? ⟨pi, 5, none⟩ = some (.int .i64 d2.e) := fun s => (HNi.out.below s.h).x5
      have z6 : ∀ s : WIn (Below wl8.heap.size wl8), s.u.cell? ⟨pk, 0, none⟩ = some (.bool d3.neg) := fun s => (HNk.out.below s.h).x0
      have z7 : ∀ s : WIn (Below wl8.heap.size wl8), s.u.cell? ⟨pk, 1, none⟩ = some (.slice AD3 mD3 cD3) := fun s => (HNk.out.below s.h).x1
      have z8 : ∀ s : WIn (Below wl8.heap.size wl8), s.u.cell? ⟨pk, 2, none⟩ = some (.int .i64 d3.e) := fun s => (HNk.out.below s.h).x2
      have z9 : ∀ s : WIn (Below wl8.heap.size wl8), s.u.cell? ⟨pk, 3, none⟩ = some (.bool d4.neg) := fun s => (HNk.out.below s.h).x3
      have z10 : ∀ s : WIn (Below wl8.heap.size wl8), s.u.cell? ⟨pk, 4, none⟩ = some (.slice AD4 mD4 cD4) := fun s => (HNk.out.below s.h).x4
      have z11 : ∀ s : WIn (Below wl8.heap.size wl8), s.u.cell? ⟨pk, 5, none⟩ = some (.int .i64 d4.e) := fun s => (HNk.out.below s.h).x5
      haveI ne : Nonempty (WIn (Below wl8.heap.size wl8)) := ⟨⟨_, Below.refl _ _⟩⟩
      go_wp2_with fail
      refine wp_region_quietC (C := Below wl8.heap.size wl8) (by kernel_rfl) (by kernel_rfl) (below_drew _) ?_
      repeat (quiet_step (first | (go_at_call 10; (with_reducible refine (C12.out _ (WIn.h _)).mono ?_); rintro e u1 ⟨rfl, hB⟩; exact ⟨rfl, ⟨⟨u1, win_next _ hB⟩, rfl⟩⟩) | (go_at_call 10; (with_reducible refine (C34.out _ (WIn.h _)).mono ?_); rintro e u1 ⟨rfl, hB⟩; exact ⟨rfl, ⟨⟨u1, win_next _ hB⟩, rfl⟩⟩)))
      refine wpQuiet_nil ?_
      rintro uq9 ⟨⟨uz, hB⟩, hz⟩
      have hz9 : uq9 = uz := hz
      clear hz
      subst hz9
      clear z0 z1 z2 z3 z4 z5 z6 z7 z8 z9 z10 z11 ne
      replace HT : Hid (Tab uq9) := HT.out.below hB
      replace HL : Hid (Lims5 A1 n1 c1 xs1 A2 n2 c2 xs2 A3 n3 c3 xs3 A4 n4 c4 xs4 A5 n5 c5 xs5 uq9) := HL.out.below hB
      replace Ja : Hid (Jb uq9 w.heap.size g1 A1 n1 c1 e1 g2 A2 n2 c2 e2) := Ja.out.below hB
      replace Jk : Hid (Jb uq9 (w.heap.size + 1) g3 A3 n3 c3 e3 g4 A4 n4 c4 e4) := Jk.out.below hB
      replace Jd : Hid (Bd uq9 (w.heap.size + 1 + 1) 24 g5 A5 n5 c5 e5) := Jd.out.below hB
      replace HNi : Hid (Sb uq9 pi 34 d1.neg AD1 mD1 cD1 d1.e d2.neg AD2 mD2 cD2 d2.e) := HNi.out.below hB
      replace D1 : Hid (Dn uq9 d1.V AD1 mD1 cD1 zD1) := D1.out.below hB
      replace D2 : Hid (Dn uq9 d2.V AD2 mD2 cD2 zD2) := D2.out.below hB
      replace HNk : Hid (Sb uq9 pk 34 d3.neg AD3 mD3 cD3 d3.e d4.neg AD4 mD4 cD4 d4.e) := HNk.out.below hB
      replace D3 : Hid (Dn uq9 d3.V AD3 mD3 cD3 zD3) := D3.out.below hB
      replace D4 : Hid (Dn uq9 d4.V AD4 mD4 cD4 zD4) := D4.out.below hB
      replace D5 : Hid (Dn uq9 d5.V AD5 mD5 cD5 zD5) := D5.out.below hB
      replace HNn : Hid (Bd uq9 wn7.heap.size 31 d5.neg AD5 mD5 cD5 d5.e) := HNn.out.below hB
      replace HS := Lib.hid (HS.out.trans (hB.mono HS.out.size))
      clear hB C12 C34
      clear Vc12 Vc34 tc12 tc34
      have CA : Hid (∀ v, Below uq9.heap.size uq9 v → Calls Tryd.prog 12 #[.agg #[.bool g1, .slice A1 n1 c1, .int .i64 e1, .bool g2, .slice A2 n2 c2, .int .i64 e2]] v (fun e w' => e = .returned (.agg #[.bool g1, .slice A1 n1 c1, .int .i64 e1, .bool g2, .slice A2 n2 c2, .int .i64 e2]) ∧ Below v.heap.size v w')) := fun v _ => of15_l g1 A1 n1 c1 e1 g2 A2 n2 c2 e2 v
      have CB : Hid (∀ v, Below uq9.heap.size uq9 v → Calls Tryd.prog 12 #[.agg #[.bool g3, .slice A3 n3 c3, .int .i64 e3, .bool g4, .slice A4 n4 c4, .int .i64 e4]] v (fun e w' => e = .returned (.agg #[.bool g3, .slice A3 n3 c3, .int .i64 e3, .bool g4, .slice A4 n4 c4, .int .i64 e4]) ∧ Below v.heap.size v w')) := fun v _ => of15_l g3 A3 n3 c3 e3 g4 A4 n4 c4 e4 v
      have CM := Lib.hid (fun v (hs : Below uq9.heap.size uq9 v) => HX.out.KS v (HL.out.below hs))
      have KEEP : Hid (∀ v, Below uq9.heap.size uq9 v → v.cell? ⟨w.heap.size, 0, none⟩ = some (.bool g1) ∧ v.cell? ⟨w.heap.size, 1, none⟩ = some (.slice A1 n1 c1) ∧ v.cell? ⟨w.heap.size, 2, none⟩ = some (.int .i64 e1) ∧ v.cell? ⟨w.heap.size, 3, none⟩ = some (.bool g2) ∧ v.cell? ⟨w.heap.size, 4, none⟩ = some (.slice A2 n2 c2) ∧ v.cell? ⟨w.heap.size, 5, none⟩ = some (.int .i64 e2) ∧ v.cell? ⟨(w.heap.size + 1), 0, none⟩ = some (.bool g3) ∧ v.cell? ⟨(w.heap.size + 1), 1, none⟩ = some (.slice A3 n3 c3) ∧ v.cell? ⟨(w.heap.size + 1), 2, none⟩ = some (.int .i64 e3) ∧ v.cell? ⟨(w.heap.size + 1), 3, none⟩ = some (.bool g4) ∧ v.cell? ⟨(w.heap.size + 1), 4, none⟩ = some (.slice A4 n4 c4) ∧ v.cell? ⟨(w.heap.size + 1), 5, none⟩ = some (.int .i64 e4)) := fun v hv => ⟨(Ja.out.below hv).x0, (Ja.out.below hv).x1, (Ja.out.below hv).x2, (Ja.out.below hv).x3, (Ja.out.below hv).x4, (Ja.out.below hv).x5, (Jk.out.below hv).x0, (Jk.out.below hv).x1, (Jk.out.below hv).x2, (Jk.out.below hv).x3, (Jk.out.below hv).x4, (Jk.out.below hv).x5⟩
      have cur := Lib.hid ((HoldUI.start uq9).below (below_drew _))
      have F1x := Lib.hid ((HoldUI.start uq9).one.below (below_drew _))
      go_wp2_with fail
      go_cut [12, 13] from 57 to 78 (fun s13 s14 wx => ∃ (p4 : Nat) (ga : Bool) (Aa : Option Addr) (ma ca : Nat) (za : List Nat) (ea : Int) (gb : Bool) (Ab : Option Addr) (mb cb : Nat) (zb : List Nat) (eb : Int), s13 = .pointer (some ⟨p4, 0, none⟩) ∧ s14 = .int .i64 rs ∧ ma ≤ 100000 ∧ mb ≤ 100000 ∧ Hid (RelI uq9 p4 ga Aa ma ca ea za gb Ab mb cb eb zb wx ∧ Bare za ∧ Bare zb ∧ QS ⟨ga, val za, ea⟩ ⟨gb, val zb, eb⟩ ma mb))
      case first =>
        clear HX HS HT HL Ja Jk Jd HNi D1 D2 HNk D3 D4 D5 HNn
        go_region_held3 (fun v => v.cell? ⟨w.heap.size, 0, none⟩ = some (.bool g1) ∧ v.cell? ⟨w.heap.size, 1, none⟩ = some (.slice A1 n1 c1) ∧ v.cell? ⟨w.heap.size, 2, none⟩ = some (.int .i64 e1) ∧ v.cell? ⟨w.heap.size, 3, none⟩ = some (.bool g2) ∧ v.cell? ⟨w.heap.size, 4, none⟩ = some (.slice A2 n2 c2) ∧ v.cell? ⟨w.heap.size, 5, none⟩ = some (.int .i64 e2) ∧ v.cell? ⟨(w.heap.size + 1), 0, none⟩ = some (.bool g3) ∧ v.cell? ⟨(w.heap.size + 1), 1, none⟩ = some (.slice A3 n3 c3) ∧ v.cell? ⟨(w.heap.size + 1), 2, none⟩ = some (.int .i64 e3) ∧ v.cell? ⟨(w.heap.size + 1), 3, none⟩ = some (.bool g4) ∧ v.cell? ⟨(w.heap.size + 1), 4, none⟩ = some (.slice A4 n4 c4) ∧ v.cell? ⟨(w.heap.size + 1), 5, none⟩ = some (.int .i64 e4)) (first | (with_reducible exact KEEP.out _ cur.out.old) | (with_reducible exact KEEP.out _ F1x.out.old) | (with_reducible exact KEEP.out _ (cur.out.a1 _)) | (with_reducible exact KEEP.out _ (cur.out.at1 _ _ _ _ _ _ _ _ _ _)))
          (first
            | (go_at_call 12; (with_reducible refine (CA.out _ (by first | (with_reducible exact cur.out.old) | (with_reducible exact F1x.out.old) | (with_reducible exact cur.out.a1 _))).mono ?_); rintro e u1 ⟨rfl, hB1⟩; (first | (with_reducible (replace cur := Lib.hid (cur.out.below hB1))) | (with_reducible (replace cur := Lib.hid (cur.out.one.below hB1))) | (with_reducible (replace cur := Lib.hid (F1x.out.below hB1)))); clear hB1; (first | (have kx := cur.out.first; have x0 := kx.x0; have x1 := kx.x1; have x2 := kx.x2; have x3 := kx.x3; have x4 := kx.x4; have x5 := kx.x5; have xf := kx.fz; have xl := kx.lt; clear kx) | skip))
            | (go_at_call 12; (with_reducible refine (CB.out _ (by first | (with_reducible exact cur.out.old) | (with_reducible exact F1x.out.old) | (with_reducible exact cur.out.a1 _))).mono ?_); rintro e u1 ⟨rfl, hB1⟩; (first | (with_reducible (replace cur := Lib.hid (cur.out.below hB1))) | (with_reducible (replace cur := Lib.hid (cur.out.one.below hB1))) | (with_reducible (replace cur := Lib.hid (F1x.out.below hB1)))); clear hB1; (first | (have kx := cur.out.first; have x0 := kx.x0; have x1 := kx.x1; have x2 := kx.x2; have x3 := kx.x3; have x4 := kx.x4; have x5 := kx.x5; have xf := kx.fz; have xl := kx.lt; clear kx) | skip))
            | (go_at_call 11; (with_reducible refine (CM.out _ (by first | (with_reducible exact cur.out.old) | (with_reducible exact F1x.out.old) | (with_reducible exact cur.out.a1 _))).mono ?_); rintro e u2 ⟨ga, Aa, ma, ca, za, ea, gb, Ab, mb, cb, zb, eb, rfl, hma, hmb, hla, hlb, hba, hbb, hB2, hQ⟩; (first | (with_reducible (replace cur := Lib.hid (cur.out.below hB2))) | (with_reducible (replace cur := Lib.hid (cur.out.one.below hB2))) | (with_reducible (replace cur := Lib.hid (F1x.out.below hB2)))); have L2 : Hid (Lim u2 Aa ma ca za ∧ Lim u2 Ab mb cb zb ∧ Bare za ∧ Bare zb ∧ QS ⟨ga, val za, ea⟩ ⟨gb, val zb, eb⟩ ma mb) := ⟨hla, hlb, hba, hbb, hQ⟩; clear hla hlb hba hbb hQ hB2; (first | (have kx := cur.out.first; have x0 := kx.x0; have x1 := kx.x1; have x2 := kx.x2; have x3 := kx.x3; have x4 := kx.x4; have x5 := kx.x5; have xf := kx.fz; have xl := kx.lt; clear kx) | skip)))
        all_goals (go_wp2_with fail)
        all_goals go_meet
        all_goals (refine ⟨_, ga, Aa, ma, ca, za, ea, gb, Ab, mb, cb, zb, eb, rfl, rfl, hma, hmb, ?_⟩)
        all_goals (first
          | (have t := RelI.last (e1 := ea) (g1 := ga) (e2 := eb) (g2 := gb) cur.out L2.out.1 L2.out.2.1; have t2 := And.intro t L2.out.2.2; (with_reducible exact Lib.hid t2))
          | (have t := RelI.ahead (e1 := ea) (g1 := ga) (e2 := eb) (g2 := gb) cur.out L2.out.1 L2.out.2.1; have t2 := And.intro t L2.out.2.2; (with_reducible exact Lib.hid t2)))
      case rest =>
        clear cur F1x KEEP CA CB CM
        obtain ⟨ux10, rfl⟩ : ∃ u, u = wc := ⟨_, rfl⟩
        obtain ⟨ps, gsa, Asa, msa, csa, ssa, esa, gsb, Asb, msb, csb, ssb, esb, rfl, rfl, hmsa, hmsb, HRx⟩ := hcut
        have hB := HRx.out.1.1
        replace HT : Hid (Tab ux10) := HT.out.below hB
        replace HL : Hid (Lims5 A1 n1 c1 xs1 A2 n2 c2 xs2 A3 n3 c3 xs3 A4 n4 c4 xs4 A5 n5 c5 xs5 ux10) := HL.out.below hB
        replace Ja : Hid (Jb ux10 w.heap.size g1 A1 n1 c1 e1 g2 A2 n2 c2 e2) := Ja.out.below hB
        replace Jk : Hid (Jb ux10 (w.heap.size + 1) g3 A3 n3 c3 e3 g4 A4 n4 c4 e4) := Jk.out.below hB
        replace Jd : Hid (Bd ux10 (w.heap.size + 1 + 1) 24 g5 A5 n5 c5 e5) := Jd.out.below hB
        replace HNi : Hid (Sb ux10 pi 34 d1.neg AD1 mD1 cD1 d1.e d2.neg AD2 mD2 cD2 d2.e) := HNi.out.below hB
        replace D1 : Hid (Dn ux10 d1.V AD1 mD1 cD1 zD1) := D1.out.below hB
        replace D2 : Hid (Dn ux10 d2.V AD2 mD2 cD2 zD2) := D2.out.below hB
        replace HNk : Hid (Sb ux10 pk 34 d3.neg AD3 mD3 cD3 d3.e d4.neg AD4 mD4 cD4 d4.e) := HNk.out.below hB
        replace D3 : Hid (Dn ux10 d3.V AD3 mD3 cD3 zD3) := D3.out.below hB
        replace D4 : Hid (Dn ux10 d4.V AD4 mD4 cD4 zD4) := D4.out.below hB
        replace D5 : Hid (Dn ux10 d5.V AD5 mD5 cD5 zD5) := D5.out.below hB
        replace HNn : Hid (Bd ux10 wn7.heap.size 31 d5.neg AD5 mD5 cD5 d5.e) := HNn.out.below hB
        replace HS := Lib.hid (HS.out.trans (hB.mono HS.out.size))
        have HIs : Hid (Ib ux10 ps gsa Asa msa csa esa gsb Asb msb csb esb) := HRx.out.1.2.1
        have HLs : Hid (Lim ux10 Asa msa csa ssa) := HRx.out.1.2.2.1
        have HHs : Hid (Lim ux10 Asb msb csb ssb) := HRx.out.1.2.2.2.1
        have HQs : Hid (Bare ssa ∧ Bare ssb ∧ QS ⟨gsa, val ssa, esa⟩ ⟨gsb, val ssb, esb⟩ msa msb) := HRx.out.2
        clear HRx hB
        have CA : Hid (∀ v, Below ux10.heap.size ux10 v → Calls Tryd.prog 12 #[.agg #[.bool g1, .slice A1 n1 c1, .int .i64 e1, .bool g2, .slice A2 n2 c2, .int .i64 e2]] v (fun e w' => e = .returned (.agg #[.bool g1, .slice A1 n1 c1, .int .i64 e1, .bool g2, .slice A2 n2 c2, .int .i64 e2]) ∧ Below v.heap.size v w')) := fun v _ => of15_l g1 A1 n1 c1 e1 g2 A2 n2 c2 e2 v
        have CB : Hid (∀ v, Below ux10.heap.size ux10 v → Calls Tryd.prog 12 #[.agg #[.bool g3, .slice A3 n3 c3, .int .i64 e3, .bool g4, .slice A4 n4 c4, .int .i64 e4]] v (fun e w' => e = .returned (.agg #[.bool g3, .slice A3 n3 c3, .int .i64 e3, .bool g4, .slice A4 n4 c4, .int .i64 e4]) ∧ Below v.heap.size v w')) := fun v _ => of15_l g3 A3 n3 c3 e3 g4 A4 n4 c4 e4 v
        have CM := Lib.hid (fun v (hs : Below ux10.heap.size ux10 v) => HX.out.KM v (HL.out.below hs))
        have KEEP : Hid (∀ v, Below ux10.heap.size ux10 v → v.cell? ⟨w.heap.size, 0, none⟩ = some (.bool g1) ∧ v.cell? ⟨w.heap.size, 1, none⟩ = some (.slice A1 n1 c1) ∧ v.cell? ⟨w.heap.size, 2, none⟩ = some (.int .i64 e1) ∧ v.cell? ⟨w.heap.size, 3, none⟩ = some (.bool g2) ∧ v.cell? ⟨w.heap.size, 4, none⟩ = some (.slice A2 n2 c2) ∧ v.cell? ⟨w.heap.size, 5, none⟩ = some (.int .i64 e2) ∧ v.cell? ⟨(w.heap.size + 1), 0, none⟩ = some (.bool g3) ∧ v.cell? ⟨(w.heap.size + 1), 1, none⟩ = some (.slice A3 n3 c3) ∧ v.cell? ⟨(w.heap.size + 1), 2, none⟩ = some (.int .i64 e3) ∧ v.cell? ⟨(w.heap.size + 1), 3, none⟩ = some (.bool g4) ∧ v.cell? ⟨(w.heap.size + 1), 4, none⟩ = some (.slice A4 n4 c4) ∧ v.cell? ⟨(w.heap.size + 1), 5, none⟩ = some (.int .i64 e4)) := fun v hv => ⟨(Ja.out.below hv).x0, (Ja.out.below hv).x1, (Ja.out.below hv).x2, (Ja.out.below hv).x3, (Ja.out.below hv).x4, (Ja.out.below hv).x5, (Jk.out.below hv).x0, (Jk.out.below hv).x1, (Jk.out.below hv).x2, (Jk.out.below hv).x3, (Jk.out.below hv).x4, (Jk.out.below hv).x5⟩
        have cur := Lib.hid ((HoldUI.start ux10).below (below_drew _))
        have F1x := Lib.hid ((HoldUI.start ux10).one.below (below_drew _))
        go_wp2_with fail
        go_cut [14, 15] from 79 to 86 (fun s13 s14 wx => ∃ (p4 : Nat) (ga : Bool) (Aa : Option Addr) (ma ca : Nat) (za : List Nat) (ea : Int) (gb : Bool) (Ab : Option Addr) (mb cb : Nat) (zb : List Nat) (eb : Int), s13 = .pointer (some ⟨p4, 0, none⟩) ∧ s14 = .int .i64 rm ∧ ma ≤ 100000 ∧ mb ≤ 100000 ∧ Hid (RelI ux10 p4 ga Aa ma ca ea za gb Ab mb cb eb zb wx ∧ Bare za ∧ Bare zb ∧ QM ⟨ga, val za, ea⟩ ⟨gb, val zb, eb⟩ ma mb))
        case first =>
          clear HX HS HT HL Ja Jk Jd HNi D1 D2 HNk D3 D4 D5 HNn HIs HLs HHs HQs
          go_region_held3 (fun v => v.cell? ⟨w.heap.size, 0, none⟩ = some (.bool g1) ∧ v.cell? ⟨w.heap.size, 1, none⟩ = some (.slice A1 n1 c1) ∧ v.cell? ⟨w.heap.size, 2, none⟩ = some (.int .i64 e1) ∧ v.cell? ⟨w.heap.size, 3, none⟩ = some (.bool g2) ∧ v.cell? ⟨w.heap.size, 4, none⟩ = some (.slice A2 n2 c2) ∧ v.cell? ⟨w.heap.size, 5, none⟩ = some (.int .i64 e2) ∧ v.cell? ⟨(w.heap.size + 1), 0, none⟩ = some (.bool g3) ∧ v.cell? ⟨(w.heap.size + 1), 1, none⟩ = some (.slice A3 n3 c3) ∧ v.cell? ⟨(w.heap.size + 1), 2, none⟩ = some (.int .i64 e3) ∧ v.cell? ⟨(w.heap.size + 1), 3, none⟩ = some (.bool g4) ∧ v.cell? ⟨(w.heap.size + 1), 4, none⟩ = some (.slice A4 n4 c4) ∧ v.cell? ⟨(w.heap.size + 1), 5, none⟩ = some (.int .i64 e4)) (first | (with_reducible exact KEEP.out _ cur.out.old) | (with_reducible exact KEEP.out _ F1x.out.old) | (with_reducible exact KEEP.out _ (cur.out.a1 _)) | (with_reducible exact KEEP.out _ (cur.out.at1 _ _ _ _ _ _ _ _ _ _)))
            (first
              | (go_at_call 12; (with_reducible refine (CA.out _ (by first | (with_reducible exact cur.out.old) | (with_reducible exact F1x.out.old) | (with_reducible exact cur.out.a1 _))).mono ?_); rintro e u1 ⟨rfl, hB1⟩; (first | (with_reducible (replace cur := Lib.hid (cur.out.below hB1))) | (with_reducible (replace cur := Lib.hid (cur.out.one.below hB1))) | (with_reducible (replace cur := Lib.hid (F1x.out.below hB1)))); clear hB1; (first | (have kx := cur.out.first; have x0 := kx.x0; have x1 := kx.x1; have x2 := kx.x2; have x3 := kx.x3; have x4 := kx.x4; have x5 := kx.x5; have xf := kx.fz; have xl := kx.lt; clear kx) | skip))
              | (go_at_call 12; (with_reducible refine (CB.out _ (by first | (with_reducible exact cur.out.old) | (with_reducible exact F1x.out.old) | (with_reducible exact cur.out.a1 _))).mono ?_); rintro e u1 ⟨rfl, hB1⟩; (first | (with_reducible (replace cur := Lib.hid (cur.out.below hB1))) | (with_reducible (replace cur := Lib.hid (cur.out.one.below hB1))) | (with_reducible (replace cur := Lib.hid (F1x.out.below hB1)))); clear hB1; (first | (have kx := cur.out.first; have x0 := kx.x0; have x1 := kx.x1; have x2 := kx.x2; have x3 := kx.x3; have x4 := kx.x4; have x5 := kx.x5; have xf := kx.fz; have xl := kx.lt; clear kx) | skip))
              | (go_at_call 13; (with_reducible refine (CM.out _ (by first | (with_reducible exact cur.out.old) | (with_reducible exact F1x.out.old) | (with_reducible exact cur.out.a1 _))).mono ?_); rintro e u2 ⟨ga, Aa, ma, ca, za, ea, gb, Ab, mb, cb, zb, eb, rfl, hma, hmb, hla, hlb, hba, hbb, hB2, hQ⟩; (first | (with_reducible (replace cur := Lib.hid (cur.out.below hB2))) | (with_reducible (replace cur := Lib.hid (cur.out.one.below hB2))) | (with_reducible (replace cur := Lib.hid (F1x.out.below hB2)))); have L2 : Hid (Lim u2 Aa ma ca za ∧ Lim u2 Ab mb cb zb ∧ Bare za ∧ Bare zb ∧ QM ⟨ga, val za, ea⟩ ⟨gb, val zb, eb⟩ ma mb) := ⟨hla, hlb, hba, hbb, hQ⟩; clear hla hlb hba hbb hQ hB2; (first | (have kx := cur.out.first; have x0 := kx.x0; have x1 := kx.x1; have x2 := kx.x2; have x3 := kx.x3; have x4 := kx.x4; have x5 := kx.x5; have xf := kx.fz; have xl := kx.lt; clear kx) | skip)))
          all_goals (go_wp2_with fail)
          all_goals go_meet
          all_goals (refine ⟨_, ga, Aa, ma, ca, za, ea, gb, Ab, mb, cb, zb, eb, rfl, rfl, hma, hmb, ?_⟩)
          all_goals (first
            | (have t := RelI.last (e1 := ea) (g1 := ga) (e2 := eb) (g2 := gb) cur.out L2.out.1 L2.out.2.1; have t2 := And.intro t L2.out.2.2; (with_reducible exact Lib.hid t2))
            | (have t := RelI.ahead (e1 := ea) (g1 := ga) (e2 := eb) (g2 := gb) cur.out L2.out.1 L2.out.2.1; have t2 := And.intro t L2.out.2.2; (with_reducible exact Lib.hid t2)))
        case rest =>
          clear cur F1x KEEP CA CB CM
          obtain ⟨ux11, rfl⟩ : ∃ u, u = wc := ⟨_, rfl⟩
          obtain ⟨pm, gma, Ama, mma, cma, sma, ema, gmb, Amb, mmb, cmb, smb, emb, rfl, rfl, hmma, hmmb, HRx⟩ := hcut
          have hB := HRx.out.1.1
          replace HT : Hid (Tab ux11) := HT.out.below hB
          replace HL : Hid (Lims5 A1 n1 c1 xs1 A2 n2 c2 xs2 A3 n3 c3 xs3 A4 n4 c4 xs4 A5 n5 c5 xs5 ux11) := HL.out.below hB
          replace Ja : Hid (Jb ux11 w.heap.size g1 A1 n1 c1 e1 g2 A2 n2 c2 e2) := Ja.out.below hB
          replace Jk : Hid (Jb ux11 (w.heap.size + 1) g3 A3 n3 c3 e3 g4 A4 n4 c4 e4) := Jk.out.below hB
          replace Jd : Hid (Bd ux11 (w.heap.size + 1 + 1) 24 g5 A5 n5 c5 e5) := Jd.out.below hB
          replace HNi : Hid (Sb ux11 pi 34 d1.neg AD1 mD1 cD1 d1.e d2.neg AD2 mD2 cD2 d2.e) := HNi.out.below hB
          replace D1 : Hid (Dn ux11 d1.V AD1 mD1 cD1 zD1) := D1.out.below hB
          replace D2 : Hid (Dn ux11 d2.V AD2 mD2 cD2 zD2) := D2.out.below hB
          replace HNk : Hid (Sb ux11 pk 34 d3.neg AD3 mD3 cD3 d3.e d4.neg AD4 mD4 cD4 d4.e) := HNk.out.below hB
          replace D3 : Hid (Dn ux11 d3.V AD3 mD3 cD3 zD3) := D3.out.below hB
          replace D4 : Hid (Dn ux11 d4.V AD4 mD4 cD4 zD4) := D4.out.below hB
          replace D5 : Hid (Dn ux11 d5.V AD5 mD5 cD5 zD5) := D5.out.below hB
          replace HNn : Hid (Bd ux11 wn7.heap.size 31 d5.neg AD5 mD5 cD5 d5.e) := HNn.out.below hB
          replace HIs : Hid (Ib ux11 ps gsa Asa msa csa esa gsb Asb msb csb esb) := HIs.out.below hB
          replace HLs : Hid (Lim ux11 Asa msa csa ssa) := HLs.out.below hB
          replace HHs : Hid (Lim ux11 Asb msb csb ssb) := HHs.out.below hB
          replace HS := Lib.hid (HS.out.trans (hB.mono HS.out.size))
          have HIm : Hid (Ib ux11 pm gma Ama mma cma ema gmb Amb mmb cmb emb) := HRx.out.1.2.1
          have HLm : Hid (Lim ux11 Ama mma cma sma) := HRx.out.1.2.2.1
          have HHm : Hid (Lim ux11 Amb mmb cmb smb) := HRx.out.1.2.2.2.1
          have HQm : Hid (Bare sma ∧ Bare smb ∧ QM ⟨gma, val sma, ema⟩ ⟨gmb, val smb, emb⟩ mma mmb) := HRx.out.2
          clear HRx hB
          have CA : Hid (∀ v, Below ux11.heap.size ux11 v → Calls Tryd.prog 12 #[.agg #[.bool g1, .slice A1 n1 c1, .int .i64 e1, .bool g2, .slice A2 n2 c2, .int .i64 e2]] v (fun e w' => e = .returned (.agg #[.bool g1, .slice A1 n1 c1, .int .i64 e1, .bool g2, .slice A2 n2 c2, .int .i64 e2]) ∧ Below v.heap.size v w')) := fun v _ => of15_l g1 A1 n1 c1 e1 g2 A2 n2 c2 e2 v
          have CM := Lib.hid (fun v (hs : Below ux11.heap.size ux11 v) => HX.out.KT v (HL.out.below hs))
          have KEEP : Hid (∀ v, Below ux11.heap.size ux11 v → v.cell? ⟨w.heap.size, 0, none⟩ = some (.bool g1) ∧ v.cell? ⟨w.heap.size, 1, none⟩ = some (.slice A1 n1 c1) ∧ v.cell? ⟨w.heap.size, 2, none⟩ = some (.int .i64 e1) ∧ v.cell? ⟨w.heap.size, 3, none⟩ = some (.bool g2) ∧ v.cell? ⟨w.heap.size, 4, none⟩ = some (.slice A2 n2 c2) ∧ v.cell? ⟨w.heap.size, 5, none⟩ = some (.int .i64 e2) ∧ v.cell? ⟨(w.heap.size + 1 + 1), 0, none⟩ = some (.bool g5) ∧ v.cell? ⟨(w.heap.size + 1 + 1), 1, none⟩ = some (.slice A5 n5 c5) ∧ v.cell? ⟨(w.heap.size + 1 + 1), 2, none⟩ = some (.int .i64 e5)) := fun v hv => ⟨(Ja.out.below hv).x0, (Ja.out.below hv).x1, (Ja.out.below hv).x2, (Ja.out.below hv).x3, (Ja.out.below hv).x4, (Ja.out.below hv).x5, (Jd.out.below hv).c0, (Jd.out.below hv).c1, (Jd.out.below hv).c2⟩
          have cur := Lib.hid ((HoldUI.start ux11).below (below_drew _))
          have F1x := Lib.hid ((HoldUI.start ux11).one.below (below_drew _))
          go_wp2_with fail
          go_cut [16, 17] from 87 to 93 (fun s13 s14 wx => ∃ (p4 : Nat) (ga : Bool) (Aa : Option Addr) (ma ca : Nat) (za : List Nat) (ea : Int) (gb : Bool) (Ab : Option Addr) (mb cb : Nat) (zb : List Nat) (eb : Int), s13 = .pointer (some ⟨p4, 0, none⟩) ∧ s14 = .int .i64 rt ∧ ma ≤ 100000 ∧ mb ≤ 100000 ∧ Hid (RelI ux11 p4 ga Aa ma ca ea za gb Ab mb cb eb zb wx ∧ Bare za ∧ Bare zb ∧ QT ⟨ga, val za, ea⟩ ⟨gb, val zb, eb⟩ ma mb))
          case first =>
            clear HX HS HT HL Ja Jk Jd HNi D1 D2 HNk D3 D4 D5 HNn HIs HLs HHs HIm HLm HHm HQs HQm
            go_region_held3 (fun v => v.cell? ⟨w.heap.size, 0, none⟩ = some (.bool g1) ∧ v.cell? ⟨w.heap.size, 1, none⟩ = some (.slice A1 n1 c1) ∧ v.cell? ⟨w.heap.size, 2, none⟩ = some (.int .i64 e1) ∧ v.cell? ⟨w.heap.size, 3, none⟩ = some (.bool g2) ∧ v.cell? ⟨w.heap.size, 4, none⟩ = some (.slice A2 n2 c2) ∧ v.cell? ⟨w.heap.size, 5, none⟩ = some (.int .i64 e2) ∧ v.cell? ⟨(w.heap.size + 1 + 1), 0, none⟩ = some (.bool g5) ∧ v.cell? ⟨(w.heap.size + 1 + 1), 1, none⟩ = some (.slice A5 n5 c5) ∧ v.cell? ⟨(w.heap.size + 1 + 1), 2, none⟩ = some (.int .i64 e5)) (first | (with_reducible exact KEEP.out _ cur.out.old) | (with_reducible exact KEEP.out _ F1x.out.old) | (with_reducible exact KEEP.out _ (cur.out.a1 _)) | (with_reducible exact KEEP.out _ (cur.out.at1 _ _ _ _ _ _ _ _ _ _)))
              (first
                | (go_at_call 12; (with_reducible refine (CA.out _ (by first | (with_reducible exact cur.out.old) | (with_reducible exact F1x.out.old) | (with_reducible exact cur.out.a1 _))).mono ?_); rintro e u1 ⟨rfl, hB1⟩; (first | (with_reducible (replace cur := Lib.hid (cur.out.below hB1))) | (with_reducible (replace cur := Lib.hid (cur.out.one.below hB1))) | (with_reducible (replace cur := Lib.hid (F1x.out.below hB1)))); clear hB1; (first | (have kx := cur.out.first; have x0 := kx.x0; have x1 := kx.x1; have x2 := kx.x2; have x3 := kx.x3; have x4 := kx.x4; have x5 := kx.x5; have xf := kx.fz; have xl := kx.lt; clear kx) | skip))
                | (go_at_call 14; (with_reducible refine (CM.out _ (by first | (with_reducible exact cur.out.old) | (with_reducible exact F1x.out.old) | (with_reducible exact cur.out.a1 _))).mono ?_); rintro e u2 ⟨ga, Aa, ma, ca, za, ea, gb, Ab, mb, cb, zb, eb, rfl, hma, hmb, hla, hlb, hba, hbb, hB2, hQ⟩; (first | (with_reducible (replace cur := Lib.hid (cur.out.below hB2))) | (with_reducible (replace cur := Lib.hid (cur.out.one.below hB2))) | (with_reducible (replace cur := Lib.hid (F1x.out.below hB2)))); have L2 : Hid (Lim u2 Aa ma ca za ∧ Lim u2 Ab mb cb zb ∧ Bare za ∧ Bare zb ∧ QT ⟨ga, val za, ea⟩ ⟨gb, val zb, eb⟩ ma mb) := ⟨hla, hlb, hba, hbb, hQ⟩; clear hla hlb hba hbb hQ hB2; (first | (have kx := cur.out.first; have x0 := kx.x0; have x1 := kx.x1; have x2 := kx.x2; have x3 := kx.x3; have x4 := kx.x4; have x5 := kx.x5; have xf := kx.fz; have xl := kx.lt; clear kx) | skip)))
            all_goals (go_wp2_with fail)
            all_goals go_meet
            all_goals (refine ⟨_, ga, Aa, ma, ca, za, ea, gb, Ab, mb, cb, zb, eb, rfl, rfl, hma, hmb, ?_⟩)
            all_goals (first
              | (have t := RelI.last (e1 := ea) (g1 := ga) (e2 := eb) (g2 := gb) cur.out L2.out.1 L2.out.2.1; have t2 := And.intro t L2.out.2.2; (with_reducible exact Lib.hid t2))
              | (have t := RelI.ahead (e1 := ea) (g1 := ga) (e2 := eb) (g2 := gb) cur.out L2.out.1 L2.out.2.1; have t2 := And.intro t L2.out.2.2; (with_reducible exact Lib.hid t2)))
          case rest =>
            clear cur F1x KEEP CA CM
            obtain ⟨ux12, rfl⟩ : ∃ u, u = wc := ⟨_, rfl⟩
            obtain ⟨pt, gta, Ata, mta, cta, sta, eta, gtb, Atb, mtb, ctb, stb, etb, rfl, rfl, hmta, hmtb, HRx⟩ := hcut
            have hB := HRx.out.1.1
            replace HT : Hid (Tab ux12) := HT.out.below hB
            replace HL : Hid (Lims5 A1 n1 c1 xs1 A2 n2 c2 xs2 A3 n3 c3 xs3 A4 n4 c4 xs4 A5 n5 c5 xs5 ux12) := HL.out.below hB
            replace Ja : Hid (Jb ux12 w.heap.size g1 A1 n1 c1 e1 g2 A2 n2 c2 e2) := Ja.out.below hB
            replace Jk : Hid (Jb ux12 (w.heap.size + 1) g3 A3 n3 c3 e3 g4 A4 n4 c4 e4) := Jk.out.below hB
            replace Jd : Hid (Bd ux12 (w.heap.size + 1 + 1) 24 g5 A5 n5 c5 e5) := Jd.out.below hB
            replace HNi : Hid (Sb ux12 pi 34 d1.neg AD1 mD1 cD1 d1.e d2.neg AD2 mD2 cD2 d2.e) := HNi.out.below hB
            replace D1 : Hid (Dn ux12 d1.V AD1 mD1 cD1 zD1) := D1.out.below hB
            replace D2 : Hid (Dn ux12 d2.V AD2 mD2 cD2 zD2) := D2.out.below hB
            replace HNk : Hid (Sb ux12 pk 34 d3.neg AD3 mD3 cD3 d3.e d4.neg AD4 mD4 cD4 d4.e) := HNk.out.below hB
            replace D3 : Hid (Dn ux12 d3.V AD3 mD3 cD3 zD3) := D3.out.below hB
            replace D4 : Hid (Dn ux12 d4.V AD4 mD4 cD4 zD4) := D4.out.below hB
            replace D5 : Hid (Dn ux12 d5.V AD5 mD5 cD5 zD5) := D5.out.below hB
            replace HNn : Hid (Bd ux12 wn7.heap.size 31 d5.neg AD5 mD5 cD5 d5.e) := HNn.out.below hB
            replace HIs : Hid (Ib ux12 ps gsa Asa msa csa esa gsb Asb msb csb esb) := HIs.out.below hB
            replace HLs : Hid (Lim ux12 Asa msa csa ssa) := HLs.out.below hB
            replace HHs : Hid (Lim ux12 Asb msb csb ssb) := HHs.out.below hB
            replace HIm : Hid (Ib ux12 pm gma Ama mma cma ema gmb Amb mmb cmb emb) := HIm.out.below hB
            replace HLm : Hid (Lim ux12 Ama mma cma sma) := HLm.out.below hB
            replace HHm : Hid (Lim ux12 Amb mmb cmb smb) := HHm.out.below hB
            replace HS := Lib.hid (HS.out.trans (hB.mono HS.out.size))
            have HIt : Hid (Ib ux12 pt gta Ata mta cta eta gtb Atb mtb ctb etb) := HRx.out.1.2.1
            have HLt : Hid (Lim ux12 Ata mta cta sta) := HRx.out.1.2.2.1
            have HHt : Hid (Lim ux12 Atb mtb ctb stb) := HRx.out.1.2.2.2.1
            have HQt : Hid (Bare sta ∧ Bare stb ∧ QT ⟨gta, val sta, eta⟩ ⟨gtb, val stb, etb⟩ mta mtb) := HRx.out.2
            clear HRx hB
            have Ja_0 := Ja.out.x0
            have Ja_1 := Ja.out.x1
            have Ja_2 := Ja.out.x2
            have Ja_3 := Ja.out.x3
            have Ja_4 := Ja.out.x4
            have Ja_5 := Ja.out.x5
            have K := Lib.hid (of15_l g1 A1 n1 c1 e1 g2 A2 n2 c2 e2 ux12)
            go_wp2_with fail
            refine K.out.mono ?_
            rintro e w13 ⟨rfl, hB⟩
            clear Ja_0 Ja_1 Ja_2 Ja_3 Ja_4 Ja_5
            replace HT : Hid (Tab w13) := HT.out.below hB
            replace HL : Hid (Lims5 A1 n1 c1 xs1 A2 n2 c2 xs2 A3 n3 c3 xs3 A4 n4 c4 xs4 A5 n5 c5 xs5 w13) := HL.out.below hB
            replace Ja : Hid (Jb w13 w.heap.size g1 A1 n1 c1 e1 g2 A2 n2 c2 e2) := Ja.out.below hB
            replace Jk : Hid (Jb w13 (w.heap.size + 1) g3 A3 n3 c3 e3 g4 A4 n4 c4 e4) := Jk.out.below hB
            replace Jd : Hid (Bd w13 (w.heap.size + 1 + 1) 24 g5 A5 n5 c5 e5) := Jd.out.below hB
            replace HNi : Hid (Sb w13 pi 34 d1.neg AD1 mD1 cD1 d1.e d2.neg AD2 mD2 cD2 d2.e) := HNi.out.below hB
            replace D1 : Hid (Dn w13 d1.V AD1 mD1 cD1 zD1) := D1.out.below hB
            replace D2 : Hid (Dn w13 d2.V AD2 mD2 cD2 zD2) := D2.out.below hB
            replace HNk : Hid (Sb w13 pk 34 d3.neg AD3 mD3 cD3 d3.e d4.neg AD4 mD4 cD4 d4.e) := HNk.out.below hB
            replace D3 : Hid (Dn w13 d3.V AD3 mD3 cD3 zD3) := D3.out.below hB
            replace D4 : Hid (Dn w13 d4.V AD4 mD4 cD4 zD4) := D4.out.below hB
            replace D5 : Hid (Dn w13 d5.V AD5 mD5 cD5 zD5) := D5.out.below hB
            replace HNn : Hid (Bd w13 wn7.heap.size 31 d5.neg AD5 mD5 cD5 d5.e) := HNn.out.below hB
            replace HIs : Hid (Ib w13 ps gsa Asa msa csa esa gsb Asb msb csb esb) := HIs.out.below hB
            replace HLs : Hid (Lim w13 Asa msa csa ssa) := HLs.out.below hB
            replace HHs : Hid (Lim w13 Asb msb csb ssb) := HHs.out.below hB
            replace HIm : Hid (Ib w13 pm gma Ama mma cma ema gmb Amb mmb cmb emb) := HIm.out.below hB
            replace HLm : Hid (Lim w13 Ama mma cma sma) := HLm.out.below hB
            replace HHm : Hid (Lim w13 Amb mmb cmb smb) := HHm.out.below hB
            replace HIt : Hid (Ib w13 pt gta Ata mta cta eta gtb Atb mtb ctb etb) := HIt.out.below hB
            replace HLt : Hid (Lim w13 Ata mta cta sta) := HLt.out.below hB
            replace HHt : Hid (Lim w13 Atb mtb ctb stb) := HHt.out.below hB
            replace HS := Lib.hid (HS.out.trans (hB.mono HS.out.size))
            clear hB K
            have K := Lib.hid (HX.out.KW w13 HL.out)
            go_wp2_with fail
            refine K.out.mono ?_
            rintro e wv14 ⟨gw, Aw, mw, cw, sw, ew, rfl, hmw, hlw, hbw, hB, hQw⟩
            replace HT : Hid (Tab wv14) := HT.out.below hB
            replace HL : Hid (Lims5 A1 n1 c1 xs1 A2 n2 c2 xs2 A3 n3 c3 xs3 A4 n4 c4 xs4 A5 n5 c5 xs5 wv14) := HL.out.below hB
            replace Ja : Hid (Jb wv14 w.heap.size g1 A1 n1 c1 e1 g2 A2 n2 c2 e2) := Ja.out.below hB
            replace Jk : Hid (Jb wv14 (w.heap.size + 1) g3 A3 n3 c3 e3 g4 A4 n4 c4 e4) := Jk.out.below hB
            replace Jd : Hid (Bd wv14 (w.heap.size + 1 + 1) 24 g5 A5 n5 c5 e5) := Jd.out.below hB
            replace HNi : Hid (Sb wv14 pi 34 d1.neg AD1 mD1 cD1 d1.e d2.neg AD2 mD2 cD2 d2.e) := HNi.out.below hB
            replace D1 : Hid (Dn wv14 d1.V AD1 mD1 cD1 zD1) := D1.out.below hB
            replace D2 : Hid (Dn wv14 d2.V AD2 mD2 cD2 zD2) := D2.out.below hB
            replace HNk : Hid (Sb wv14 pk 34 d3.neg AD3 mD3 cD3 d3.e d4.neg AD4 mD4 cD4 d4.e) := HNk.out.below hB
            replace D3 : Hid (Dn wv14 d3.V AD3 mD3 cD3 zD3) := D3.out.below hB
            replace D4 : Hid (Dn wv14 d4.V AD4 mD4 cD4 zD4) := D4.out.below hB
            replace D5 : Hid (Dn wv14 d5.V AD5 mD5 cD5 zD5) := D5.out.below hB
            replace HNn : Hid (Bd wv14 wn7.heap.size 31 d5.neg AD5 mD5 cD5 d5.e) := HNn.out.below hB
            replace HIs : Hid (Ib wv14 ps gsa Asa msa csa esa gsb Asb msb csb esb) := HIs.out.below hB
            replace HLs : Hid (Lim wv14 Asa msa csa ssa) := HLs.out.below hB
            replace HHs : Hid (Lim wv14 Asb msb csb ssb) := HHs.out.below hB
            replace HIm : Hid (Ib wv14 pm gma Ama mma cma ema gmb Amb mmb cmb emb) := HIm.out.below hB
            replace HLm : Hid (Lim wv14 Ama mma cma sma) := HLm.out.below hB
            replace HHm : Hid (Lim wv14 Amb mmb cmb smb) := HHm.out.below hB
            replace HIt : Hid (Ib wv14 pt gta Ata mta cta eta gtb Atb mtb ctb etb) := HIt.out.below hB
            replace HLt : Hid (Lim wv14 Ata mta cta sta) := HLt.out.below hB
            replace HHt : Hid (Lim wv14 Atb mtb ctb stb) := HHt.out.below hB
            replace HS := Lib.hid (HS.out.trans (hB.mono HS.out.size))
            have HLw : Hid (Lim wv14 Aw mw cw sw) := hlw
            have HQw : Hid (Bare sw ∧ QW ⟨gw, val sw, ew⟩ mw) := ⟨hbw, hQw⟩
            clear hlw hbw hQw hB K
            have ba := below1 wv14 (.cells #[.bool gw, .slice Aw mw cw, .int .i64 ew] 36)
            replace HT : Hid (Tab (wv14.alloc (.cells #[.bool gw, .slice Aw mw cw, .int .i64 ew] 36))) := HT.out.below ba
            replace HL : Hid (Lims5 A1 n1 c1 xs1 A2 n2 c2 xs2 A3 n3 c3 xs3 A4 n4 c4 xs4 A5 n5 c5 xs5 (wv14.alloc (.cells #[.bool gw, .slice Aw mw cw, .int .i64 ew] 36))) := HL.out.below ba
            replace Ja : Hid (Jb (wv14.alloc (.cells #[.bool gw, .slice Aw mw cw, .int .i64 ew] 36)) w.heap.size g1 A1 n1 c1 e1 g2 A2 n2 c2 e2) := Ja.out.below ba
            replace Jk : Hid (Jb (wv14.alloc (.cells #[.bool gw, .slice Aw mw cw, .int .i64 ew] 36)) (w.heap.size + 1) g3 A3 n3 c3 e3 g4 A4 n4 c4 e4) := Jk.out.below ba
            replace Jd : Hid (Bd (wv14.alloc (.cells #[.bool gw, .slice Aw mw cw, .int .i64 ew] 36)) (w.heap.size + 1 + 1) 24 g5 A5 n5 c5 e5) := Jd.out.below ba
            replace HNi : Hid (Sb (wv14.alloc (.cells #[.bool gw, .slice Aw mw cw, .int .i64 ew] 36)) pi 34 d1.neg AD1 mD1 cD1 d1.e d2.neg AD2 mD2 cD2 d2.e) := HNi.out.below ba
            replace D1 : Hid (Dn (wv14.alloc (.cells #[.bool gw, .slice Aw mw cw, .int .i64 ew] 36)) d1.V AD1 mD1 cD1 zD1) := D1.out.below ba
            replace D2 : Hid (Dn (wv14.alloc (.cells #[.bool gw, .slice Aw mw cw, .int .i64 ew] 36)) d2.V AD2 mD2 cD2 zD2) := D2.out.below ba
            replace HNk : Hid (Sb (wv14.alloc (.cells #[.bool gw, .slice Aw mw cw, .int .i64 ew] 36)) pk 34 d3.neg AD3 mD3 cD3 d3.e d4.neg AD4 mD4 cD4 d4.e) := HNk.out.below ba
            replace D3 : Hid (Dn (wv14.alloc (.cells #[.bool gw, .slice Aw mw cw, .int .i64 ew] 36)) d3.V AD3 mD3 cD3 zD3) := D3.out.below ba
            replace D4 : Hid (Dn (wv14.alloc (.cells #[.bool gw, .slice Aw mw cw, .int .i64 ew] 36)) d4.V AD4 mD4 cD4 zD4) := D4.out.below ba
            replace D5 : Hid (Dn (wv14.alloc (.cells #[.bool gw, .slice Aw mw cw, .int .i64 ew] 36)) d5.V AD5 mD5 cD5 zD5) := D5.out.below ba
            replace HNn : Hid (Bd (wv14.alloc (.cells #[.bool gw, .slice Aw mw cw, .int .i64 ew] 36)) wn7.heap.size 31 d5.neg AD5 mD5 cD5 d5.e) := HNn.out.below ba
            replace HIs : Hid (Ib (wv14.alloc (.cells #[.bool gw, .slice Aw mw cw, .int .i64 ew] 36)) ps gsa Asa msa csa esa gsb Asb msb csb esb) := HIs.out.below ba
            replace HLs : Hid (Lim (wv14.alloc (.cells #[.bool gw, .slice Aw mw cw, .int .i64 ew] 36)) Asa msa csa ssa) := HLs.out.below ba
            replace HHs : Hid (Lim (wv14.alloc (.cells #[.bool gw, .slice Aw mw cw, .int .i64 ew] 36)) Asb msb csb ssb) := HHs.out.below ba
            replace HIm : Hid (Ib (wv14.alloc (.cells #[.bool gw, .slice Aw mw cw, .int .i64 ew] 36)) pm gma Ama mma cma ema gmb Amb mmb cmb emb) := HIm.out.below ba
            replace HLm : Hid (Lim (wv14.alloc (.cells #[.bool gw, .slice Aw mw cw, .int .i64 ew] 36)) Ama mma cma sma) := HLm.out.below ba
            replace HHm : Hid (Lim (wv14.alloc (.cells #[.bool gw, .slice Aw mw cw, .int .i64 ew] 36)) Amb mmb cmb smb) := HHm.out.below ba
            replace HIt : Hid (Ib (wv14.alloc (.cells #[.bool gw, .slice Aw mw cw, .int .i64 ew] 36)) pt gta Ata mta cta eta gtb Atb mtb ctb etb) := HIt.out.below ba
            replace HLt : Hid (Lim (wv14.alloc (.cells #[.bool gw, .slice Aw mw cw, .int .i64 ew] 36)) Ata mta cta sta) := HLt.out.below ba
            replace HHt : Hid (Lim (wv14.alloc (.cells #[.bool gw, .slice Aw mw cw, .int .i64 ew] 36)) Atb mtb ctb stb) := HHt.out.below ba
            replace HLw : Hid (Lim (wv14.alloc (.cells #[.bool gw, .slice Aw mw cw, .int .i64 ew] 36)) Aw mw cw sw) := HLw.out.below ba
            replace HS := Lib.hid (HS.out.trans (ba.mono HS.out.size))
            clear ba
            have HW : Hid (Bd (wv14.alloc (.cells #[.bool gw, .slice Aw mw cw, .int .i64 ew] 36)) wv14.heap.size 36 gw Aw mw cw ew) := Bd.new wv14 36 gw Aw mw cw ew
            go_upto_region 13 with fail
            generalize hwl : (wv14.alloc (.cells #[.bool gw, .slice Aw mw cw, .int .i64 ew] 36)) = wl15 at HT HL Ja Jk Jd HNi D1 D2 HNk D3 D4 D5 HNn HIs HLs HHs HIm HLm HHm HIt HLt HHt HLw HW HS ⊢
            clear hwl
            obtain ⟨c15, hc15⟩ : ∃ c, cmpI (dwD d1) (dwD d5) = c := ⟨_, rfl⟩
            have tc15 : decide (c15 ≤ 0) = b1 := by rw [← HX.out.W15, ← hc15]; exact decide_eq_decide.2 cmpI_upto
            have Vc15 := Lib.hid hc15
            clear hc15
            have C15 : Hid (∀ v, Below wl15.heap.size wl15 v → Calls Tryd.prog 10 #[.agg #[.bool d1.neg, .slice AD1 mD1 cD1, .int .i64 d1.e], .agg #[.bool d5.neg, .slice AD5 mD5 cD5, .int .i64 d5.e]] v (fun e w' => e = .returned (.int .i64 c15) ∧ Below v.heap.size v w')) := fun v hs => dn_cmp c15 Vc15 (D1.out.below hs) (D5.out.below hs) HX.out.N1.2.1 HX.out.N5.2.1
            obtain ⟨c52, hc52⟩ : ∃ c, cmpI (dwD d5) (dwD d2) = c := ⟨_, rfl⟩
            have tc52 : decide (c52 ≤ 0) = b2 := by rw [← HX.out.W52, ← hc52]; exact decide_eq_decide.2 cmpI_upto
            have Vc52 := Lib.hid hc52
            clear hc52
            have C52 : Hid (∀ v, Below wl15.heap.size wl15 v → Calls Tryd.prog 10 #[.agg #[.bool d5.neg, .slice AD5 mD5 cD5, .int .i64 d5.e], .agg #[.bool d2.neg, .slice AD2 mD2 cD2, .int .i64 d2.e]] v (fun e w' => e = .returned (.int .i64 c52) ∧ Below v.heap.size v w')) := fun v hs => dn_cmp c52 Vc52 (D5.out.below hs) (D2.out.below hs) HX.out.N5.2.1 HX.out.N2.2.1
            go_cut [20] from 94 to 114 (fun s20 wx => s20 = .bool has ∧ Hid (Below wl15.heap.size wl15 wx))
            case first =>
              have HHx := Lib.hid HX.out.hh
              clear HX HS HT HL Ja Jk Jd D1 D2 HNk D3 D4 D5 HIs HLs HHs HIm HLm HHm HIt HLt HHt HLw HW HQs HQm HQt HQw
              cases v1
              · skip
                go_wp2_with fail
                go_meet
                exact ⟨congrArg Value.bool HHx.out, Lib.hid (Below.refl _ _)⟩
              · skip
                have HNi_0 := (HNi.out.below (Below.refl wl15.heap.size wl15)).x0
                have HNi_1 := (HNi.out.below (Below.refl wl15.heap.size wl15)).x1
                have HNi_2 := (HNi.out.below (Below.refl wl15.heap.size wl15)).x2
                have HNn_0 := (HNn.out.below (Below.refl wl15.heap.size wl15)).c0
                have HNn_1 := (HNn.out.below (Below.refl wl15.heap.size wl15)).c1
                have HNn_2 := (HNn.out.below (Below.refl wl15.heap.size wl15)).c2
                go_wp2_with fail
                refine (C15.out _ (Below.refl wl15.heap.size wl15)).mono ?_
                rintro e v09 ⟨rfl, hB0⟩
                clear HNi_0 HNi_1 HNi_2 HNn_0 HNn_1 HNn_2
                cases b1
                · skip
                  go_wp2_with fail
                  go_meet
                  exact ⟨congrArg Value.bool HHx.out, Lib.hid ((Below.refl wl15.heap.size wl15).trans (hB0.mono (Below.refl wl15.heap.size wl15).size))⟩
                · skip
                  have HNn_0 := (HNn.out.below ((Below.refl wl15.heap.size wl15).trans (hB0.mono (Below.refl wl15.heap.size wl15).size))).c0
                  have HNn_1 := (HNn.out.below ((Below.refl wl15.heap.size wl15).trans (hB0.mono (Below.refl wl15.heap.size wl15).size))).c1
                  have HNn_2 := (HNn.out.below ((Below.refl wl15.heap.size wl15).trans (hB0.mono (Below.refl wl15.heap.size wl15).size))).c2
                  have HNi_3 := (HNi.out.below ((Below.refl wl15.heap.size wl15).trans (hB0.mono (Below.refl wl15.heap.size wl15).size))).x3
                  have HNi_4 := (HNi.out.below ((Below.refl wl15.heap.size wl15).trans (hB0.mono (Below.refl wl15.heap.size wl15).size))).x4
                  have HNi_5 := (HNi.out.below ((Below.refl wl15.heap.size wl15).trans (hB0.mono (Below.refl wl15.heap.size wl15).size))).x5
                  go_wp2_with fail
                  refine (C52.out _ ((Below.refl wl15.heap.size wl15).trans (hB0.mono (Below.refl wl15.heap.size wl15).size))).mono ?_
                  rintro e v19 ⟨rfl, hB1⟩
                  clear HNn_0 HNn_1 HNn_2 HNi_3 HNi_4 HNi_5
                  cases b2
                  · skip
                    go_wp2_with fail
                    go_meet
                    exact ⟨congrArg Value.bool HHx.out, Lib.hid (((Below.refl wl15.heap.size wl15).trans (hB0.mono (Below.refl wl15.heap.size wl15).size)).trans (hB1.mono ((Below.refl wl15.heap.size wl15).trans (hB0.mono (Below.refl wl15.heap.size wl15).size)).size))⟩
                  · skip
                    go_wp2_with fail
                    go_meet
                    exact ⟨congrArg Value.bool HHx.out, Lib.hid (((Below.refl wl15.heap.size wl15).trans (hB0.mono (Below.refl wl15.heap.size wl15).size)).trans (hB1.mono ((Below.refl wl15.heap.size wl15).trans (hB0.mono (Below.refl wl15.heap.size wl15).size)).size))⟩
            case rest =>
              obtain ⟨uc16, rfl⟩ : ∃ u, u = wc := ⟨_, rfl⟩
              obtain ⟨rfl, HRx⟩ := hcut
              have hB := HRx.out
              replace HT : Hid (Tab uc16) := HT.out.below hB
              replace HL : Hid (Lims5 A1 n1 c1 xs1 A2 n2 c2 xs2 A3 n3 c3 xs3 A4 n4 c4 xs4 A5 n5 c5 xs5 uc16) := HL.out.below hB
              replace Ja : Hid (Jb uc16 w.heap.size g1 A1 n1 c1 e1 g2 A2 n2 c2 e2) := Ja.out.below hB
              replace Jk : Hid (Jb uc16 (w.heap.size + 1) g3 A3 n3 c3 e3 g4 A4 n4 c4 e4) := Jk.out.below hB
              replace Jd : Hid (Bd uc16 (w.heap.size + 1 + 1) 24 g5 A5 n5 c5 e5) := Jd.out.below hB
              replace HNi : Hid (Sb uc16 pi 34 d1.neg AD1 mD1 cD1 d1.e d2.neg AD2 mD2 cD2 d2.e) := HNi.out.below hB
              replace D1 : Hid (Dn uc16 d1.V AD1 mD1 cD1 zD1) := D1.out.below hB
              replace D2 : Hid (Dn uc16 d2.V AD2 mD2 cD2 zD2) := D2.out.below hB
              replace HNk : Hid (Sb uc16 pk 34 d3.neg AD3 mD3 cD3 d3.e d4.neg AD4 mD4 cD4 d4.e) := HNk.out.below hB
              replace D3 : Hid (Dn uc16 d3.V AD3 mD3 cD3 zD3) := D3.out.below hB
              replace D4 : Hid (Dn uc16 d4.V AD4 mD4 cD4 zD4) := D4.out.below hB
              replace D5 : Hid (Dn uc16 d5.V AD5 mD5 cD5 zD5) := D5.out.below hB
              replace HNn : Hid (Bd uc16 wn7.heap.size 31 d5.neg AD5 mD5 cD5 d5.e) := HNn.out.below hB
              replace HIs : Hid (Ib uc16 ps gsa Asa msa csa esa gsb Asb msb csb esb) := HIs.out.below hB
              replace HLs : Hid (Lim uc16 Asa msa csa ssa) := HLs.out.below hB
              replace HHs : Hid (Lim uc16 Asb msb csb ssb) := HHs.out.below hB
              replace HIm : Hid (Ib uc16 pm gma Ama mma cma ema gmb Amb mmb cmb emb) := HIm.out.below hB
              replace HLm : Hid (Lim uc16 Ama mma cma sma) := HLm.out.below hB
              replace HHm : Hid (Lim uc16 Amb mmb cmb smb) := HHm.out.below hB
              replace HIt : Hid (Ib uc16 pt gta Ata mta cta eta gtb Atb mtb ctb etb) := HIt.out.below hB
              replace HLt : Hid (Lim uc16 Ata mta cta sta) := HLt.out.below hB
              replace HHt : Hid (Lim uc16 Atb mtb ctb stb) := HHt.out.below hB
              replace HLw : Hid (Lim uc16 Aw mw cw sw) := HLw.out.below hB
              replace HW : Hid (Bd uc16 wv14.heap.size 36 gw Aw mw cw ew) := HW.out.below hB
              replace HS := Lib.hid (HS.out.trans (hB.mono HS.out.size))
              clear HRx hB C15 Vc15 tc15 C52 Vc52 tc52
              go_upto_region 14 with fail
              obtain ⟨c31, hc31⟩ : ∃ c, cmpI (dwD d3) (dwD d1) = c := ⟨_, rfl⟩
              have tc31 : decide (c31 ≤ 0) = b3 := by rw [← HX.out.W31, ← hc31]; exact decide_eq_decide.2 cmpI_upto
              have Vc31 := Lib.hid hc31
              clear hc31
              have C31 : Hid (∀ v, Below uc16.heap.size uc16 v → Calls Tryd.prog 10 #[.agg #[.bool d3.neg, .slice AD3 mD3 cD3, .int .i64 d3.e], .agg #[.bool d1.neg, .slice AD1 mD1 cD1, .int .i64 d1.e]] v (fun e w' => e = .returned (.int .i64 c31) ∧ Below v.heap.size v w')) := fun v hs => dn_cmp c31 Vc31 (D3.out.below hs) (D1.out.below hs) HX.out.N3.2.1 HX.out.N1.2.1
              obtain ⟨c24, hc24⟩ : ∃ c, cmpI (dwD d2) (dwD d4) = c := ⟨_, rfl⟩
              have tc24 : decide (c24 ≤ 0) = b4 := by rw [← HX.out.W24, ← hc24]; exact decide_eq_decide.2 cmpI_upto
              have Vc24 := Lib.hid hc24
              clear hc24
              have C24 : Hid (∀ v, Below uc16.heap.size uc16 v → Calls Tryd.prog 10 #[.agg #[.bool d2.neg, .slice AD2 mD2 cD2, .int .i64 d2.e], .agg #[.bool d4.neg, .slice AD4 mD4 cD4, .int .i64 d4.e]] v (fun e w' => e = .returned (.int .i64 c24) ∧ Below v.heap.size v w')) := fun v hs => dn_cmp c24 Vc24 (D2.out.below hs) (D4.out.below hs) HX.out.N2.2.1 HX.out.N4.2.1
              go_cut [21] from 115 to 134 (fun s20 wx => s20 = .bool ins ∧ Hid (Below uc16.heap.size uc16 wx))
              case first =>
                have HHx := Lib.hid HX.out.hi
                clear HX HS HT HL Ja Jk Jd D1 D2 D3 D4 D5 HNn HIs HLs HHs HIm HLm HHm HIt HLt HHt HLw HW HQs HQm HQt HQw
                cases v1
                · skip
                  go_wp2_with fail
                  go_meet
                  exact ⟨congrArg Value.bool HHx.out, Lib.hid (Below.refl _ _)⟩
                · skip
                  cases v2
                  · skip
                    go_wp2_with fail
                    go_meet
                    exact ⟨congrArg Value.bool HHx.out, Lib.hid (Below.refl _ _)⟩
                  · skip
                    have HNk_0 := (HNk.out.below (Below.refl uc16.heap.size uc16)).x0
                    have HNk_1 := (HNk.out.below (Below.refl uc16.heap.size uc16)).x1
                    have HNk_2 := (HNk.out.below (Below.refl uc16.heap.size uc16)).x2
                    have HNi_0 := (HNi.out.below (Below.refl uc16.heap.size uc16)).x0
                    have HNi_1 := (HNi.out.below (Below.refl uc16.heap.size uc16)).x1
                    have HNi_2 := (HNi.out.below (Below.refl uc16.heap.size uc16)).x2
                    go_wp2_with fail
                    refine (C31.out _ (Below.refl uc16.heap.size uc16)).mono ?_
                    rintro e v09 ⟨rfl, hB0⟩
                    clear HNk_0 HNk_1 HNk_2 HNi_0 HNi_1 HNi_2
                    cases b3
                    · skip
                      go_wp2_with fail
                      go_meet
                      exact ⟨congrArg Value.bool HHx.out, Lib.hid ((Below.refl uc16.heap.size uc16).trans (hB0.mono (Below.refl uc16.heap.size uc16).size))⟩
                    · skip
                      have HNi_3 := (HNi.out.below ((Below.refl uc16.heap.size uc16).trans (hB0.mono (Below.refl uc16.heap.size uc16).size))).x3
                      have HNi_4 := (HNi.out.below ((Below.refl uc16.heap.size uc16).trans (hB0.mono (Below.refl uc16.heap.size uc16).size))).x4
                      have HNi_5 := (HNi.out.below ((Below.refl uc16.heap.size uc16).trans (hB0.mono (Below.refl uc16.heap.size uc16).size))).x5
                      have HNk_3 := (HNk.out.below ((Below.refl uc16.heap.size uc16).trans (hB0.mono (Below.refl uc16.heap.size uc16).size))).x3
                      have HNk_4 := (HNk.out.below ((Below.refl uc16.heap.size uc16).trans (hB0.mono (Below.refl uc16.heap.size uc16).size))).x4
                      have HNk_5 := (HNk.out.below ((Below.refl uc16.heap.size uc16).trans (hB0.mono (Below.refl uc16.heap.size uc16).size))).x5
                      go_wp2_with fail
                      refine (C24.out _ ((Below.refl uc16.heap.size uc16).trans (hB0.mono (Below.refl uc16.heap.size uc16).size))).mono ?_
                      rintro e v19 ⟨rfl, hB1⟩
                      clear HNi_3 HNi_4 HNi_5 HNk_3 HNk_4 HNk_5
                      cases b4
                      · skip
                        go_wp2_with fail
                        go_meet
                        exact ⟨congrArg Value.bool HHx.out, Lib.hid (((Below.refl uc16.heap.size uc16).trans (hB0.mono (Below.refl uc16.heap.size uc16).size)).trans (hB1.mono ((Below.refl uc16.heap.size uc16).trans (hB0.mono (Below.refl uc16.heap.size uc16).size)).size))⟩
                      · skip
                        go_wp2_with fail
                        go_meet
                        exact ⟨congrArg Value.bool HHx.out, Lib.hid (((Below.refl uc16.heap.size uc16).trans (hB0.mono (Below.refl uc16.heap.size uc16).size)).trans (hB1.mono ((Below.refl uc16.heap.size uc16).trans (hB0.mono (Below.refl uc16.heap.size uc16).size)).size))⟩
              case rest =>
                obtain ⟨uc17, rfl⟩ : ∃ u, u = wc := ⟨_, rfl⟩
                obtain ⟨rfl, HRx⟩ := hcut
                have hB := HRx.out
                replace HT : Hid (Tab uc17) := HT.out.below hB
                replace HL : Hid (Lims5 A1 n1 c1 xs1 A2 n2 c2 xs2 A3 n3 c3 xs3 A4 n4 c4 xs4 A5 n5 c5 xs5 uc17) := HL.out.below hB
                replace Ja : Hid (Jb uc17 w.heap.size g1 A1 n1 c1 e1 g2 A2 n2 c2 e2) := Ja.out.below hB
                replace Jk : Hid (Jb uc17 (w.heap.size + 1) g3 A3 n3 c3 e3 g4 A4 n4 c4 e4) := Jk.out.below hB
                replace Jd : Hid (Bd uc17 (w.heap.size + 1 + 1) 24 g5 A5 n5 c5 e5) := Jd.out.below hB
                replace HNi : Hid (Sb uc17 pi 34 d1.neg AD1 mD1 cD1 d1.e d2.neg AD2 mD2 cD2 d2.e) := HNi.out.below hB
                replace D1 : Hid (Dn uc17 d1.V AD1 mD1 cD1 zD1) := D1.out.below hB
                replace D2 : Hid (Dn uc17 d2.V AD2 mD2 cD2 zD2) := D2.out.below hB
                replace HNk : Hid (Sb uc17 pk 34 d3.neg AD3 mD3 cD3 d3.e d4.neg AD4 mD4 cD4 d4.e) := HNk.out.below hB
                replace D3 : Hid (Dn uc17 d3.V AD3 mD3 cD3 zD3) := D3.out.below hB
                replace D4 : Hid (Dn uc17 d4.V AD4 mD4 cD4 zD4) := D4.out.below hB
                replace D5 : Hid (Dn uc17 d5.V AD5 mD5 cD5 zD5) := D5.out.below hB
                replace HNn : Hid (Bd uc17 wn7.heap.size 31 d5.neg AD5 mD5 cD5 d5.e) := HNn.out.below hB
                replace HIs : Hid (Ib uc17 ps gsa Asa msa csa esa gsb Asb msb csb esb) := HIs.out.below hB
                replace HLs : Hid (Lim uc17 Asa msa csa ssa) := HLs.out.below hB
                replace HHs : Hid (Lim uc17 Asb msb csb ssb) := HHs.out.below hB
                replace HIm : Hid (Ib uc17 pm gma Ama mma cma ema gmb Amb mmb cmb emb) := HIm.out.below hB
                replace HLm : Hid (Lim uc17 Ama mma cma sma) := HLm.out.below hB
                replace HHm : Hid (Lim uc17 Amb mmb cmb smb) := HHm.out.below hB
                replace HIt : Hid (Ib uc17 pt gta Ata mta cta eta gtb Atb mtb ctb etb) := HIt.out.below hB
                replace HLt : Hid (Lim uc17 Ata mta cta sta) := HLt.out.below hB
                replace HHt : Hid (Lim uc17 Atb mtb ctb stb) := HHt.out.below hB
                replace HLw : Hid (Lim uc17 Aw mw cw sw) := HLw.out.below hB
                replace HW : Hid (Bd uc17 wv14.heap.size 36 gw Aw mw cw ew) := HW.out.below hB
                replace HS := Lib.hid (HS.out.trans (hB.mono HS.out.size))
                clear HRx hB C31 Vc31 tc31 C24 Vc24 tc24
                have CA : Hid (∀ v, Below uc17.heap.size uc17 v → Calls Tryd.prog 12 #[.agg #[.bool g1, .slice A1 n1 c1, .int .i64 e1, .bool g2, .slice A2 n2 c2, .int .i64 e2]] v (fun e w' => e = .returned (.agg #[.bool g1, .slice A1 n1 c1, .int .i64 e1, .bool g2, .slice A2 n2 c2, .int .i64 e2]) ∧ Below v.heap.size v w')) := fun v _ => of15_l g1 A1 n1 c1 e1 g2 A2 n2 c2 e2 v
                have CB : Hid (∀ v, Below uc17.heap.size uc17 v → Calls Tryd.prog 12 #[.agg #[.bool g3, .slice A3 n3 c3, .int .i64 e3, .bool g4, .slice A4 n4 c4, .int .i64 e4]] v (fun e w' => e = .returned (.agg #[.bool g3, .slice A3 n3 c3, .int .i64 e3, .bool g4, .slice A4 n4 c4, .int .i64 e4]) ∧ Below v.heap.size v w')) := fun v _ => of15_l g3 A3 n3 c3 e3 g4 A4 n4 c4 e4 v
                have CR := Lib.hid (fun v (hs : Below uc17.heap.size uc17 v) => HX.out.KR v (HL.out.below hs))
                have CH := Lib.hid (fun v (hs : Below uc17.heap.size uc17 v) => HX.out.KH v (HL.out.below hs))
                have CI := Lib.hid (fun v (hs : Below uc17.heap.size uc17 v) => HX.out.KI v (HL.out.below hs))
                have ev1 : (v1 == v1) = true := by cases v1 <;> rfl
                have fv1 : (v1 != v1) = false := by cases v1 <;> rfl
                have ehas : (has == has) = true := by cases has <;> rfl
                have fhas : (has != has) = false := by cases has <;> rfl
                have eins : (ins == ins) = true := by cases ins <;> rfl
                have fins : (ins != ins) = false := by cases ins <;> rfl
                have z0 : ∀ s : WIn (Below uc17.heap.size uc17), s.u.cell? ⟨w.heap.size, 0, none⟩ = some (.bool g1) := fun s => (Ja.out.below s.h).x0
                have z1 : ∀ s : WIn (Below uc17.heap.size uc17), s.u.cell? ⟨w.heap.size, 1, none⟩ = some (.slice A1 n1 c1) := fun s => (Ja.out.below s.h).x1
                have z2 : ∀ s : WIn (Below uc17.heap.size uc17), s.u.cell? ⟨w.heap.size, 2, none⟩ = some (.int .i64 e1) := fun s => (Ja.out.below s.h).x2
                have z3 : ∀ s : WIn (Below uc17.heap.size uc17), s.u.cell? ⟨w.heap.size, 3, none⟩ = some (.bool g2) := fun s => (Ja.out.below s.h).x3
                have z4 : ∀ s : WIn (Below uc17.heap.size uc17), s.u.cell? ⟨w.heap.size, 4, none⟩ = some (.slice A2 n2 c2) := fun s => (Ja.out.below s.h).x4
                have z5 : ∀ s : WIn (Below uc17.heap.size uc17), s.u.cell? ⟨w.heap.size, 5, none⟩ = some (.int .i64 e2) := fun s => (Ja.out.below s.h).x5
                have z6 : ∀ s : WIn (Below uc17.heap.size uc17), s.u.cell? ⟨(w.heap.size + 1), 0, none⟩ = some (.bool g3) := fun s => (Jk.out.below s.h).x0
                have z7 : ∀ s : WIn (Below uc17.heap.size uc17), s.u.cell? ⟨(w.heap.size + 1), 1, none⟩ = some (.slice A3 n3 c3) := fun s => (Jk.out.below s.h).x1
                have z8 : ∀ s : WIn (Below uc17.heap.size uc17), s.u.cell? ⟨(w.heap.size + 1), 2, none⟩ = some (.int .i64 e3) := fun s => (Jk.out.below s.h).x2
                have z9 : ∀ s : WIn (Below uc17.heap.size uc17), s.u.cell? ⟨(w.heap.size + 1), 3, none⟩ = some (.bool g4) := fun s => (Jk.out.below s.h).x3
                have z10 : ∀ s : WIn (Below uc17.heap.size uc17), s.u.cell? ⟨(w.heap.size + 1), 4, none⟩ = some (.slice A4 n4 c4) := fun s => (Jk.out.below s.h).x4
                have z11 : ∀ s : WIn (Below uc17.heap.size uc17), s.u.cell? ⟨(w.heap.size + 1), 5, none⟩ = some (.int .i64 e4) := fun s => (Jk.out.below s.h).x5
                have z12 : ∀ s : WIn (Below uc17.heap.size uc17), s.u.cell? ⟨(w.heap.size + 1 + 1), 0, none⟩ = some (.bool g5) := fun s => (Jd.out.below s.h).c0
                have z13 : ∀ s : WIn (Below uc17.heap.size uc17), s.u.cell? ⟨(w.heap.size + 1 + 1), 1, none⟩ = some (.slice A5 n5 c5) := fun s => (Jd.out.below s.h).c1
                have z14 : ∀ s : WIn (Below uc17.heap.size uc17), s.u.cell? ⟨(w.heap.size + 1 + 1), 2, none⟩ = some (.int .i64 e5) := fun s => (Jd.out.below s.h).c2
                haveI ne : Nonempty (WIn (Below uc17.heap.size uc17)) := ⟨⟨_, Below.refl _ _⟩⟩
                go_wp2_with fail
                refine wp_region_quietC (C := Below uc17.heap.size uc17) (by kernel_rfl) (by kernel_rfl) (below_drew _) ?_
                repeat (quiet_step (first | (go_at_call 12; (with_reducible refine (CA.out _ (WIn.h _)).mono ?_); rintro e u1 ⟨rfl, hB⟩; exact ⟨rfl, ⟨⟨u1, win_next _ hB⟩, rfl⟩⟩) | (go_at_call 12; (with_reducible refine (CB.out _ (WIn.h _)).mono ?_); rintro e u1 ⟨rfl, hB⟩; exact ⟨rfl, ⟨⟨u1, win_next _ hB⟩, rfl⟩⟩) | (go_at_call 16; (with_reducible refine (CR.out _ (WIn.h _)).mono ?_); rintro e u1 ⟨rfl, hB⟩; exact ⟨rfl, ⟨⟨u1, win_next _ hB⟩, rfl⟩⟩) | (go_at_call 17; (with_reducible refine (CH.out _ (WIn.h _)).mono ?_); rintro e u1 ⟨rfl, hB⟩; exact ⟨rfl, ⟨⟨u1, win_next _ hB⟩, rfl⟩⟩) | (go_at_call 18; (with_reducible refine (CI.out _ (WIn.h _)).mono ?_); rintro e u1 ⟨rfl, hB⟩; exact ⟨rfl, ⟨⟨u1, win_next _ hB⟩, rfl⟩⟩)))
                refine wpQuiet_nil ?_
                rintro uq18 ⟨⟨uz, hB⟩, hz⟩
                have hz9 : uq18 = uz := hz
                clear hz
                subst hz9
                clear z0 z1 z2 z3 z4 z5 z6 z7 z8 z9 z10 z11 z12 z13 z14 ne
                replace HT : Hid (Tab uq18) := HT.out.below hB
                replace HL : Hid (Lims5 A1 n1 c1 xs1 A2 n2 c2 xs2 A3 n3 c3 xs3 A4 n4 c4 xs4 A5 n5 c5 xs5 uq18) := HL.out.below hB
                replace Ja : Hid (Jb uq18 w.heap.size g1 A1 n1 c1 e1 g2 A2 n2 c2 e2) := Ja.out.below hB
                replace Jk : Hid (Jb uq18 (w.heap.size + 1) g3 A3 n3 c3 e3 g4 A4 n4 c4 e4) := Jk.out.below hB
                replace Jd : Hid (Bd uq18 (w.heap.size + 1 + 1) 24 g5 A5 n5 c5 e5) := Jd.out.below hB
                replace HNi : Hid (Sb uq18 pi 34 d1.neg AD1 mD1 cD1 d1.e d2.neg AD2 mD2 cD2 d2.e) := HNi.out.below hB
                replace D1 : Hid (Dn uq18 d1.V AD1 mD1 cD1 zD1) := D1.out.below hB
                replace D2 : Hid (Dn uq18 d2.V AD2 mD2 cD2 zD2) := D2.out.below hB
                replace HNk : Hid (Sb uq18 pk 34 d3.neg AD3 mD3 cD3 d3.e d4.neg AD4 mD4 cD4 d4.e) := HNk.out.below hB
                replace D3 : Hid (Dn uq18 d3.V AD3 mD3 cD3 zD3) := D3.out.below hB
                replace D4 : Hid (Dn uq18 d4.V AD4 mD4 cD4 zD4) := D4.out.below hB
                replace D5 : Hid (Dn uq18 d5.V AD5 mD5 cD5 zD5) := D5.out.below hB
                replace HNn : Hid (Bd uq18 wn7.heap.size 31 d5.neg AD5 mD5 cD5 d5.e) := HNn.out.below hB
                replace HIs : Hid (Ib uq18 ps gsa Asa msa csa esa gsb Asb msb csb esb) := HIs.out.below hB
                replace HLs : Hid (Lim uq18 Asa msa csa ssa) := HLs.out.below hB
                replace HHs : Hid (Lim uq18 Asb msb csb ssb) := HHs.out.below hB
                replace HIm : Hid (Ib uq18 pm gma Ama mma cma ema gmb Amb mmb cmb emb) := HIm.out.below hB
                replace HLm : Hid (Lim uq18 Ama mma cma sma) := HLm.out.below hB
                replace HHm : Hid (Lim uq18 Amb mmb cmb smb) := HHm.out.below hB
                replace HIt : Hid (Ib uq18 pt gta Ata mta cta eta gtb Atb mtb ctb etb) := HIt.out.below hB
                replace HLt : Hid (Lim uq18 Ata mta cta sta) := HLt.out.below hB
                replace HHt : Hid (Lim uq18 Atb mtb ctb stb) := HHt.out.below hB
                replace HLw : Hid (Lim uq18 Aw mw cw sw) := HLw.out.below hB
                replace HW : Hid (Bd uq18 wv14.heap.size 36 gw Aw mw cw ew) := HW.out.below hB
                replace HS := Lib.hid (HS.out.trans (hB.mono HS.out.size))
                clear hB CA CB CH CI CR
                cases v1
                · skip
                  obtain ⟨rfl, rfl, rfl, rfl, q1, q2, q3⟩ := HX.out.F0 rfl
                  obtain rfl := q1 _ _ _ _ HQs.out.2.2
                  obtain rfl := q2 _ _ _ _ HQt.out.2.2
                  obtain rfl := q3 _ _ HQw.out.2
                  clear q1 q2 q3
                  have HW_0 := HW.out.c0
                  have HW_1 := HW.out.c1
                  have HW_2 := HW.out.c2
                  have HIt_0 := HIt.out.x0
                  have HIt_1 := HIt.out.x1
                  have HIt_2 := HIt.out.x2
                  have HIt_3 := HIt.out.x3
                  have HIt_4 := HIt.out.x4
                  have HIt_5 := HIt.out.x5
                  have HIs_0 := HIs.out.x0
                  have HIs_1 := HIs.out.x1
                  have HIs_2 := HIs.out.x2
                  have HIs_3 := HIs.out.x3
                  have HIs_4 := HIs.out.x4
                  have HIs_5 := HIs.out.x5
                  have Hfin := Lib.hid HS.out
                  clear HS HT HL Ja Jk Jd HNi D1 D2 HNk D3 D4 D5 HNn HIs HLs HHs HIm HLm HHm HIt HLt HHt HLw HW HX HQs HQm HQt HQw
                  go_wp2
                  go_ret
                  exact ⟨rfl, Hfin.out⟩
                · skip
                  obtain ⟨rfl, rfl, MT, MW⟩ := HX.out.F1 rfl
                  have HMT := Lib.hid (MT _ _ _ _ HQt.out.2.2)
                  have HMW := Lib.hid (MW _ _ HQw.out.2)
                  clear MT MW
                  have HBt : Hid (Bare sta ∧ Bare stb) := ⟨HQt.out.1, HQt.out.2.1⟩
                  have HBw := Lib.hid HQw.out.1
                  clear HQt HQw
                  have y0 := HNi.out.x0
                  have y1 := HNi.out.x1
                  have y2 := HNi.out.x2
                  have ba := below1 uq18 (.cells #[.bool (!d1.neg), .slice AD1 mD1 cD1, .int .i64 d1.e] 31)
                  replace HT : Hid (Tab (uq18.alloc (.cells #[.bool (!d1.neg), .slice AD1 mD1 cD1, .int .i64 d1.e] 31))) := HT.out.below ba
                  replace HL : Hid (Lims5 A1 n1 c1 xs1 A2 n2 c2 xs2 A3 n3 c3 xs3 A4 n4 c4 xs4 A5 n5 c5 xs5 (uq18.alloc (.cells #[.bool (!d1.neg), .slice AD1 mD1 cD1, .int .i64 d1.e] 31))) := HL.out.below ba
                  replace Ja : Hid (Jb (uq18.alloc (.cells #[.bool (!d1.neg), .slice AD1 mD1 cD1, .int .i64 d1.e] 31)) w.heap.size g1 A1 n1 c1 e1 g2 A2 n2 c2 e2) := Ja.out.below ba
                  replace Jk : Hid (Jb (uq18.alloc (.cells #[.bool (!d1.neg), .slice AD1 mD1 cD1, .int .i64 d1.e] 31)) (w.heap.size + 1) g3 A3 n3 c3 e3 g4 A4 n4 c4 e4) := Jk.out.below ba
                  replace Jd : Hid (Bd (uq18.alloc (.cells #[.bool (!d1.neg), .slice AD1 mD1 cD1, .int .i64 d1.e] 31)) (w.heap.size + 1 + 1) 24 g5 A5 n5 c5 e5) := Jd.out.below ba
                  replace HNi : Hid (Sb (uq18.alloc (.cells #[.bool (!d1.neg), .slice AD1 mD1 cD1, .int .i64 d1.e] 31)) pi 34 d1.neg AD1 mD1 cD1 d1.e d2.neg AD2 mD2 cD2 d2.e) := HNi.out.below ba
                  replace D1 : Hid (Dn (uq18.alloc (.cells #[.bool (!d1.neg), .slice AD1 mD1 cD1, .int .i64 d1.e] 31)) d1.V AD1 mD1 cD1 zD1) := D1.out.below ba
                  replace D2 : Hid (Dn (uq18.alloc (.cells #[.bool (!d1.neg), .slice AD1 mD1 cD1, .int .i64 d1.e] 31)) d2.V AD2 mD2 cD2 zD2) := D2.out.below ba
                  replace HNk : Hid (Sb (uq18.alloc (.cells #[.bool (!d1.neg), .slice AD1 mD1 cD1, .int .i64 d1.e] 31)) pk 34 d3.neg AD3 mD3 cD3 d3.e d4.neg AD4 mD4 cD4 d4.e) := HNk.out.below ba
                  replace D3 : Hid (Dn (uq18.alloc (.cells #[.bool (!d1.neg), .slice AD1 mD1 cD1, .int .i64 d1.e] 31)) d3.V AD3 mD3 cD3 zD3) := D3.out.below ba
                  replace D4 : Hid (Dn (uq18.alloc (.cells #[.bool (!d1.neg), .slice AD1 mD1 cD1, .int .i64 d1.e] 31)) d4.V AD4 mD4 cD4 zD4) := D4.out.below ba
                  replace D5 : Hid (Dn (uq18.alloc (.cells #[.bool (!d1.neg), .slice AD1 mD1 cD1, .int .i64 d1.e] 31)) d5.V AD5 mD5 cD5 zD5) := D5.out.below ba
                  replace HNn : Hid (Bd (uq18.alloc (.cells #[.bool (!d1.neg), .slice AD1 mD1 cD1, .int .i64 d1.e] 31)) wn7.heap.size 31 d5.neg AD5 mD5 cD5 d5.e) := HNn.out.below ba
                  replace HIs : Hid (Ib (uq18.alloc (.cells #[.bool (!d1.neg), .slice AD1 mD1 cD1, .int .i64 d1.e] 31)) ps gsa Asa msa csa esa gsb Asb msb csb esb) := HIs.out.below ba
                  replace HLs : Hid (Lim (uq18.alloc (.cells #[.bool (!d1.neg), .slice AD1 mD1 cD1, .int .i64 d1.e] 31)) Asa msa csa ssa) := HLs.out.below ba
                  replace HHs : Hid (Lim (uq18.alloc (.cells #[.bool (!d1.neg), .slice AD1 mD1 cD1, .int .i64 d1.e] 31)) Asb msb csb ssb) := HHs.out.below ba
                  replace HIm : Hid (Ib (uq18.alloc (.cells #[.bool (!d1.neg), .slice AD1 mD1 cD1, .int .i64 d1.e] 31)) pm gma Ama mma cma ema gmb Amb mmb cmb emb) := HIm.out.below ba
                  replace HLm : Hid (Lim (uq18.alloc (.cells #[.bool (!d1.neg), .slice AD1 mD1 cD1, .int .i64 d1.e] 31)) Ama mma cma sma) := HLm.out.below ba
                  replace HHm : Hid (Lim (uq18.alloc (.cells #[.bool (!d1.neg), .slice AD1 mD1 cD1, .int .i64 d1.e] 31)) Amb mmb cmb smb) := HHm.out.below ba
                  replace HIt : Hid (Ib (uq18.alloc (.cells #[.bool (!d1.neg), .slice AD1 mD1 cD1, .int .i64 d1.e] 31)) pt gta Ata mta cta eta gtb Atb mtb ctb etb) := HIt.out.below ba
                  replace HLt : Hid (Lim (uq18.alloc (.cells #[.bool (!d1.neg), .slice AD1 mD1 cD1, .int .i64 d1.e] 31)) Ata mta cta sta) := HLt.out.below ba
                  replace HHt : Hid (Lim (uq18.alloc (.cells #[.bool (!d1.neg), .slice AD1 mD1 cD1, .int .i64 d1.e] 31)) Atb mtb ctb stb) := HHt.out.below ba
                  replace HLw : Hid (Lim (uq18.alloc (.cells #[.bool (!d1.neg), .slice AD1 mD1 cD1, .int .i64 d1.e] 31)) Aw mw cw sw) := HLw.out.below ba
                  replace HW : Hid (Bd (uq18.alloc (.cells #[.bool (!d1.neg), .slice AD1 mD1 cD1, .int .i64 d1.e] 31)) wv14.heap.size 36 gw Aw mw cw ew) := HW.out.below ba
                  replace HS := Lib.hid (HS.out.trans (ba.mono HS.out.size))
                  clear ba
                  have HXb : Hid (Bd (uq18.alloc (.cells #[.bool (!d1.neg), .slice AD1 mD1 cD1, .int .i64 d1.e] 31)) uq18.heap.size 31 (!d1.neg) AD1 mD1 cD1 d1.e) := Bd.new uq18 31 (!d1.neg) AD1 mD1 cD1 d1.e
                  have HNi_0 := HNi.out.x0
                  have HNi_1 := HNi.out.x1
                  have HNi_2 := HNi.out.x2
                  have HNi_3 := HNi.out.x3
                  have HNi_4 := HNi.out.x4
                  have HNi_5 := HNi.out.x5
                  have HXb_0 := HXb.out.c0
                  have HXb_1 := HXb.out.c1
                  have HXb_2 := HXb.out.c2
                  have K : Hid (Calls Tryd.prog 20 #[.agg #[.bool d2.neg, .slice AD2 mD2 cD2, .int .i64 d2.e], .agg #[.bool (!d1.neg), .slice AD1 mD1 cD1, .int .i64 d1.e]] (uq18.alloc (.cells #[.bool (!d1.neg), .slice AD1 mD1 cD1, .int .i64 d1.e] 31)) (NTold (uq18.alloc (.cells #[.bool (!d1.neg), .slice AD1 mD1 cD1, .int .i64 d1.e] 31)) oz 600)) := Lib.hid (HX.out.S3.2 _ _ _ _ _ _ _ _ _ D2.out D1.out)
                  go_wp2_with fail
                  refine K.out.mono ?_
                  rintro e wz19 ⟨A9, m9, c9, z9, rfl, hm9, hl9, hb9, hv9, hB⟩
                  clear y0 y1 y2
                  clear HNi_0 HNi_1 HNi_2 HNi_3 HNi_4 HNi_5 HXb_0 HXb_1 HXb_2
                  replace HT : Hid (Tab wz19) := HT.out.below hB
                  replace HL : Hid (Lims5 A1 n1 c1 xs1 A2 n2 c2 xs2 A3 n3 c3 xs3 A4 n4 c4 xs4 A5 n5 c5 xs5 wz19) := HL.out.below hB
                  replace Ja : Hid (Jb wz19 w.heap.size g1 A1 n1 c1 e1 g2 A2 n2 c2 e2) := Ja.out.below hB
                  replace Jk : Hid (Jb wz19 (w.heap.size + 1) g3 A3 n3 c3 e3 g4 A4 n4 c4 e4) := Jk.out.below hB
                  replace Jd : Hid (Bd wz19 (w.heap.size + 1 + 1) 24 g5 A5 n5 c5 e5) := Jd.out.below hB
                  replace HNi : Hid (Sb wz19 pi 34 d1.neg AD1 mD1 cD1 d1.e d2.neg AD2 mD2 cD2 d2.e) := HNi.out.below hB
                  replace D1 : Hid (Dn wz19 d1.V AD1 mD1 cD1 zD1) := D1.out.below hB
                  replace D2 : Hid (Dn wz19 d2.V AD2 mD2 cD2 zD2) := D2.out.below hB
                  replace HNk : Hid (Sb wz19 pk 34 d3.neg AD3 mD3 cD3 d3.e d4.neg AD4 mD4 cD4 d4.e) := HNk.out.below hB
                  replace D3 : Hid (Dn wz19 d3.V AD3 mD3 cD3 zD3) := D3.out.below hB
                  replace D4 : Hid (Dn wz19 d4.V AD4 mD4 cD4 zD4) := D4.out.below hB
                  replace D5 : Hid (Dn wz19 d5.V AD5 mD5 cD5 zD5) := D5.out.below hB
                  replace HNn : Hid (Bd wz19 wn7.heap.size 31 d5.neg AD5 mD5 cD5 d5.e) := HNn.out.below hB
                  replace HIs : Hid (Ib wz19 ps gsa Asa msa csa esa gsb Asb msb csb esb) := HIs.out.below hB
                  replace HLs : Hid (Lim wz19 Asa msa csa ssa) := HLs.out.below hB
                  replace HHs : Hid (Lim wz19 Asb msb csb ssb) := HHs.out.below hB
                  replace HIm : Hid (Ib wz19 pm gma Ama mma cma ema gmb Amb mmb cmb emb) := HIm.out.below hB
                  replace HLm : Hid (Lim wz19 Ama mma cma sma) := HLm.out.below hB
                  replace HHm : Hid (Lim wz19 Amb mmb cmb smb) := HHm.out.below hB
                  replace HIt : Hid (Ib wz19 pt gta Ata mta cta eta gtb Atb mtb ctb etb) := HIt.out.below hB
                  replace HLt : Hid (Lim wz19 Ata mta cta sta) := HLt.out.below hB
                  replace HHt : Hid (Lim wz19 Atb mtb ctb stb) := HHt.out.below hB
                  replace HLw : Hid (Lim wz19 Aw mw cw sw) := HLw.out.below hB
                  replace HW : Hid (Bd wz19 wv14.heap.size 36 gw Aw mw cw ew) := HW.out.below hB
                  replace HXb : Hid (Bd wz19 uq18.heap.size 31 (!d1.neg) AD1 mD1 cD1 d1.e) := HXb.out.below hB
                  replace HS := Lib.hid (HS.out.trans (hB.mono HS.out.size))
                  clear hB K
                  have hz9 := sp_e HX.out.HSp.2.2
                  have K : Hid (Calls Tryd.prog 19 #[.agg #[.bool oz.neg, .slice A9 m9 c9, .int .i64 oz.e]] wz19 (TTold wz19 z 201)) := Lib.hid (rto_big oz.neg oz.V oz.e z.neg z.V z.e A9 m9 c9 z9 wz19 hl9 hb9 hv9 (by omega) HX.out.S3.1 (by omega) (by omega))
                  clear hm9 hl9 hb9 hv9 hz9
                  go_wp2_with fail
                  refine K.out.mono ?_
                  rintro e wy20 ⟨Ay, my, cy, zy, rfl, hmy, hly, hby, hvy, hB⟩
                  replace HT : Hid (Tab wy20) := HT.out.below hB
                  replace HL : Hid (Lims5 A1 n1 c1 xs1 A2 n2 c2 xs2 A3 n3 c3 xs3 A4 n4 c4 xs4 A5 n5 c5 xs5 wy20) := HL.out.below hB
                  replace Ja : Hid (Jb wy20 w.heap.size g1 A1 n1 c1 e1 g2 A2 n2 c2 e2) := Ja.out.below hB
                  replace Jk : Hid (Jb wy20 (w.heap.size + 1) g3 A3 n3 c3 e3 g4 A4 n4 c4 e4) := Jk.out.below hB
                  replace Jd : Hid (Bd wy20 (w.heap.size + 1 + 1) 24 g5 A5 n5 c5 e5) := Jd.out.below hB
                  replace HNi : Hid (Sb wy20 pi 34 d1.neg AD1 mD1 cD1 d1.e d2.neg AD2 mD2 cD2 d2.e) := HNi.out.below hB
                  replace D1 : Hid (Dn wy20 d1.V AD1 mD1 cD1 zD1) := D1.out.below hB
                  replace D2 : Hid (Dn wy20 d2.V AD2 mD2 cD2 zD2) := D2.out.below hB
                  replace HNk : Hid (Sb wy20 pk 34 d3.neg AD3 mD3 cD3 d3.e d4.neg AD4 mD4 cD4 d4.e) := HNk.out.below hB
                  replace D3 : Hid (Dn wy20 d3.V AD3 mD3 cD3 zD3) := D3.out.below hB
                  replace D4 : Hid (Dn wy20 d4.V AD4 mD4 cD4 zD4) := D4.out.below hB
                  replace D5 : Hid (Dn wy20 d5.V AD5 mD5 cD5 zD5) := D5.out.below hB
                  replace HNn : Hid (Bd wy20 wn7.heap.size 31 d5.neg AD5 mD5 cD5 d5.e) := HNn.out.below hB
                  replace HIs : Hid (Ib wy20 ps gsa Asa msa csa esa gsb Asb msb csb esb) := HIs.out.below hB
                  replace HLs : Hid (Lim wy20 Asa msa csa ssa) := HLs.out.below hB
                  replace HHs : Hid (Lim wy20 Asb msb csb ssb) := HHs.out.below hB
                  replace HIm : Hid (Ib wy20 pm gma Ama mma cma ema gmb Amb mmb cmb emb) := HIm.out.below hB
                  replace HLm : Hid (Lim wy20 Ama mma cma sma) := HLm.out.below hB
                  replace HHm : Hid (Lim wy20 Amb mmb cmb smb) := HHm.out.below hB
                  replace HIt : Hid (Ib wy20 pt gta Ata mta cta eta gtb Atb mtb ctb etb) := HIt.out.below hB
                  replace HLt : Hid (Lim wy20 Ata mta cta sta) := HLt.out.below hB
                  replace HHt : Hid (Lim wy20 Atb mtb ctb stb) := HHt.out.below hB
                  replace HLw : Hid (Lim wy20 Aw mw cw sw) := HLw.out.below hB
                  replace HW : Hid (Bd wy20 wv14.heap.size 36 gw Aw mw cw ew) := HW.out.below hB
                  replace HXb : Hid (Bd wy20 uq18.heap.size 31 (!d1.neg) AD1 mD1 cD1 d1.e) := HXb.out.below hB
                  replace HS := Lib.hid (HS.out.trans (hB.mono HS.out.size))
                  have HLy : Hid (Lim wy20 Ay my cy zy) := hly
                  have HVy : Hid (Bare zy ∧ val zy = z.V) := ⟨hby, hvy⟩
                  clear hly hby hvy hB K
                  have ba := below1 wy20 (.cells #[.bool z.neg, .slice Ay my cy, .int .i64 z.e] 24)
                  replace HT : Hid (Tab (wy20.alloc (.cells #[.bool z.neg, .slice Ay my cy, .int .i64 z.e] 24))) := HT.out.below ba
                  replace HL : Hid (Lims5 A1 n1 c1 xs1 A2 n2 c2 xs2 A3 n3 c3 xs3 A4 n4 c4 xs4 A5 n5 c5 xs5 (wy20.alloc (.cells #[.bool z.neg, .slice Ay my cy, .int .i64 z.e] 24))) := HL.out.below ba
                  replace Ja : Hid (Jb (wy20.alloc (.cells #[.bool z.neg, .slice Ay my cy, .int .i64 z.e] 24)) w.heap.size g1 A1 n1 c1 e1 g2 A2 n2 c2 e2) := Ja.out.below ba
                  replace Jk : Hid (Jb (wy20.alloc (.cells #[.bool z.neg, .slice Ay my cy, .int .i64 z.e] 24)) (w.heap.size + 1) g3 A3 n3 c3 e3 g4 A4 n4 c4 e4) := Jk.out.below ba
                  replace Jd : Hid (Bd (wy20.alloc (.cells #[.bool z.neg, .slice Ay my cy, .int .i64 z.e] 24)) (w.heap.size + 1 + 1) 24 g5 A5 n5 c5 e5) := Jd.out.below ba
                  replace HNi : Hid (Sb (wy20.alloc (.cells #[.bool z.neg, .slice Ay my cy, .int .i64 z.e] 24)) pi 34 d1.neg AD1 mD1 cD1 d1.e d2.neg AD2 mD2 cD2 d2.e) := HNi.out.below ba
                  replace D1 : Hid (Dn (wy20.alloc (.cells #[.bool z.neg, .slice Ay my cy, .int .i64 z.e] 24)) d1.V AD1 mD1 cD1 zD1) := D1.out.below ba
                  replace D2 : Hid (Dn (wy20.alloc (.cells #[.bool z.neg, .slice Ay my cy, .int .i64 z.e] 24)) d2.V AD2 mD2 cD2 zD2) := D2.out.below ba
                  replace HNk : Hid (Sb (wy20.alloc (.cells #[.bool z.neg, .slice Ay my cy, .int .i64 z.e] 24)) pk 34 d3.neg AD3 mD3 cD3 d3.e d4.neg AD4 mD4 cD4 d4.e) := HNk.out.below ba
                  replace D3 : Hid (Dn (wy20.alloc (.cells #[.bool z.neg, .slice Ay my cy, .int .i64 z.e] 24)) d3.V AD3 mD3 cD3 zD3) := D3.out.below ba
                  replace D4 : Hid (Dn (wy20.alloc (.cells #[.bool z.neg, .slice Ay my cy, .int .i64 z.e] 24)) d4.V AD4 mD4 cD4 zD4) := D4.out.below ba
                  replace D5 : Hid (Dn (wy20.alloc (.cells #[.bool z.neg, .slice Ay my cy, .int .i64 z.e] 24)) d5.V AD5 mD5 cD5 zD5) := D5.out.below ba
                  replace HNn : Hid (Bd (wy20.alloc (.cells #[.bool z.neg, .slice Ay my cy, .int .i64 z.e] 24)) wn7.heap.size 31 d5.neg AD5 mD5 cD5 d5.e) := HNn.out.below ba
                  replace HIs : Hid (Ib (wy20.alloc (.cells #[.bool z.neg, .slice Ay my cy, .int .i64 z.e] 24)) ps gsa Asa msa csa esa gsb Asb msb csb esb) := HIs.out.below ba
                  replace HLs : Hid (Lim (wy20.alloc (.cells #[.bool z.neg, .slice Ay my cy, .int .i64 z.e] 24)) Asa msa csa ssa) := HLs.out.below ba
                  replace HHs : Hid (Lim (wy20.alloc (.cells #[.bool z.neg, .slice Ay my cy, .int .i64 z.e] 24)) Asb msb csb ssb) := HHs.out.below ba
                  replace HIm : Hid (Ib (wy20.alloc (.cells #[.bool z.neg, .slice Ay my cy, .int .i64 z.e] 24)) pm gma Ama mma cma ema gmb Amb mmb cmb emb) := HIm.out.below ba
                  replace HLm : Hid (Lim (wy20.alloc (.cells #[.bool z.neg, .slice Ay my cy, .int .i64 z.e] 24)) Ama mma cma sma) := HLm.out.below ba
                  replace HHm : Hid (Lim (wy20.alloc (.cells #[.bool z.neg, .slice Ay my cy, .int .i64 z.e] 24)) Amb mmb cmb smb) := HHm.out.below ba
                  replace HIt : Hid (Ib (wy20.alloc (.cells #[.bool z.neg, .slice Ay my cy, .int .i64 z.e] 24)) pt gta Ata mta cta eta gtb Atb mtb ctb etb) := HIt.out.below ba
                  replace HLt : Hid (Lim (wy20.alloc (.cells #[.bool z.neg, .slice Ay my cy, .int .i64 z.e] 24)) Ata mta cta sta) := HLt.out.below ba
                  replace HHt : Hid (Lim (wy20.alloc (.cells #[.bool z.neg, .slice Ay my cy, .int .i64 z.e] 24)) Atb mtb ctb stb) := HHt.out.below ba
                  replace HLw : Hid (Lim (wy20.alloc (.cells #[.bool z.neg, .slice Ay my cy, .int .i64 z.e] 24)) Aw mw cw sw) := HLw.out.below ba
                  replace HW : Hid (Bd (wy20.alloc (.cells #[.bool z.neg, .slice Ay my cy, .int .i64 z.e] 24)) wv14.heap.size 36 gw Aw mw cw ew) := HW.out.below ba
                  replace HXb : Hid (Bd (wy20.alloc (.cells #[.bool z.neg, .slice Ay my cy, .int .i64 z.e] 24)) uq18.heap.size 31 (!d1.neg) AD1 mD1 cD1 d1.e) := HXb.out.below ba
                  replace HLy : Hid (Lim (wy20.alloc (.cells #[.bool z.neg, .slice Ay my cy, .int .i64 z.e] 24)) Ay my cy zy) := HLy.out.below ba
                  replace HS := Lib.hid (HS.out.trans (ba.mono HS.out.size))
                  clear ba
                  have HY : Hid (Bd (wy20.alloc (.cells #[.bool z.neg, .slice Ay my cy, .int .i64 z.e] 24)) wy20.heap.size 24 z.neg Ay my cy z.e) := Bd.new wy20 24 z.neg Ay my cy z.e
                  go_upto_region 22 with fail
                  generalize hwl : (wy20.alloc (.cells #[.bool z.neg, .slice Ay my cy, .int .i64 z.e] 24)) = wl21 at HT HL Ja Jk Jd HNi D1 D2 HNk D3 D4 D5 HNn HIs HLs HHs HIm HLm HHm HIt HLt HHt HLw HW HXb HLy HY HS ⊢
                  clear hwl
                  have KA : Hid (∀ v, Below wl21.heap.size wl21 v → Tab v ∧ Sb v pi 34 d1.neg AD1 mD1 cD1 d1.e d2.neg AD2 mD2 cD2 d2.e ∧ Sb v pk 34 d3.neg AD3 mD3 cD3 d3.e d4.neg AD4 mD4 cD4 d4.e ∧ Dn v d1.V AD1 mD1 cD1 zD1 ∧ Dn v d2.V AD2 mD2 cD2 zD2 ∧ Dn v d3.V AD3 mD3 cD3 zD3 ∧ Dn v d4.V AD4 mD4 cD4 zD4 ∧ Ib v ps gsa Asa msa csa esa gsb Asb msb csb esb ∧ Lim v Asa msa csa ssa ∧ Lim v Asb msb csb ssb ∧ Ib v pm gma Ama mma cma ema gmb Amb mmb cmb emb ∧ Lim v Ama mma cma sma ∧ Lim v Amb mmb cmb smb) := fun v hv => ⟨HT.out.below hv, HNi.out.below hv, HNk.out.below hv, D1.out.below hv, D2.out.below hv, D3.out.below hv, D4.out.below hv, HIs.out.below hv, HLs.out.below hv, HHs.out.below hv, HIm.out.below hv, HLm.out.below hv, HHm.out.below hv⟩
                  have HSB := HS
                  have HBEL : Hid (Bel wl21 wl21) := Below.refl _ _
                  have HNi_0 := HNi.out.x0
                  have HNi_1 := HNi.out.x1
                  have HNi_2 := HNi.out.x2
                  have HNi_3 := HNi.out.x3
                  have HNi_4 := HNi.out.x4
                  have HNi_5 := HNi.out.x5
                  have HNn_0 := HNn.out.c0
                  have HNn_1 := HNn.out.c1
                  have HNn_2 := HNn.out.c2
                  have K := Lib.hid (HX.out.EA wl21 _ _ _ _ _ _ _ _ _ _ _ _ _ _ _ _ D1.out D2.out D5.out D5.out)
                  go_wp2_with fail
                  refine K.out.mono ?_
                  rintro e we22 ⟨qg, qA, qm, qc, qd, qE, qg2, qA2, qm2, qc2, qd2, qE2, rfl, qh1, qh2, hq, hr, hqw, hrw, hB⟩
                  clear HNi_0 HNi_1 HNi_2 HNi_3 HNi_4 HNi_5 HNn_0 HNn_1 HNn_2
                  replace HT : Hid (Tab we22) := HT.out.below hB
                  replace HL : Hid (Lims5 A1 n1 c1 xs1 A2 n2 c2 xs2 A3 n3 c3 xs3 A4 n4 c4 xs4 A5 n5 c5 xs5 we22) := HL.out.below hB
                  replace Ja : Hid (Jb we22 w.heap.size g1 A1 n1 c1 e1 g2 A2 n2 c2 e2) := Ja.out.below hB
                  replace Jk : Hid (Jb we22 (w.heap.size + 1) g3 A3 n3 c3 e3 g4 A4 n4 c4 e4) := Jk.out.below hB
                  replace Jd : Hid (Bd we22 (w.heap.size + 1 + 1) 24 g5 A5 n5 c5 e5) := Jd.out.below hB
                  replace HNi : Hid (Sb we22 pi 34 d1.neg AD1 mD1 cD1 d1.e d2.neg AD2 mD2 cD2 d2.e) := HNi.out.below hB
                  replace D1 : Hid (Dn we22 d1.V AD1 mD1 cD1 zD1) := D1.out.below hB
                  replace D2 : Hid (Dn we22 d2.V AD2 mD2 cD2 zD2) := D2.out.below hB
                  replace HNk : Hid (Sb we22 pk 34 d3.neg AD3 mD3 cD3 d3.e d4.neg AD4 mD4 cD4 d4.e) := HNk.out.below hB
                  replace D3 : Hid (Dn we22 d3.V AD3 mD3 cD3 zD3) := D3.out.below hB
                  replace D4 : Hid (Dn we22 d4.V AD4 mD4 cD4 zD4) := D4.out.below hB
                  replace D5 : Hid (Dn we22 d5.V AD5 mD5 cD5 zD5) := D5.out.below hB
                  replace HNn : Hid (Bd we22 wn7.heap.size 31 d5.neg AD5 mD5 cD5 d5.e) := HNn.out.below hB
                  replace HIs : Hid (Ib we22 ps gsa Asa msa csa esa gsb Asb msb csb esb) := HIs.out.below hB
                  replace HLs : Hid (Lim we22 Asa msa csa ssa) := HLs.out.below hB
                  replace HHs : Hid (Lim we22 Asb msb csb ssb) := HHs.out.below hB
                  replace HIm : Hid (Ib we22 pm gma Ama mma cma ema gmb Amb mmb cmb emb) := HIm.out.below hB
                  replace HLm : Hid (Lim we22 Ama mma cma sma) := HLm.out.below hB
                  replace HHm : Hid (Lim we22 Amb mmb cmb smb) := HHm.out.below hB
                  replace HIt : Hid (Ib we22 pt gta Ata mta cta eta gtb Atb mtb ctb etb) := HIt.out.below hB
                  replace HLt : Hid (Lim we22 Ata mta cta sta) := HLt.out.below hB
                  replace HHt : Hid (Lim we22 Atb mtb ctb stb) := HHt.out.below hB
                  replace HLw : Hid (Lim we22 Aw mw cw sw) := HLw.out.below hB
                  replace HW : Hid (Bd we22 wv14.heap.size 36 gw Aw mw cw ew) := HW.out.below hB
                  replace HXb : Hid (Bd we22 uq18.heap.size 31 (!d1.neg) AD1 mD1 cD1 d1.e) := HXb.out.below hB
                  replace HLy : Hid (Lim we22 Ay my cy zy) := HLy.out.below hB
                  replace HY : Hid (Bd we22 wy20.heap.size 24 z.neg Ay my cy z.e) := HY.out.below hB
                  replace HBEL : Hid (Bel wl21 we22) := HBEL.out.below hB
                  replace HS := Lib.hid (HS.out.trans (hB.mono HS.out.size))
                  have HDq : Hid (Dig we22 qA qm qc qd) := hq.1
                  have HEq : Hid (Dig we22 qA2 qm2 qc2 qd2) := hr.1
                  have HVq : Hid (D.Bare qd ∧ D.Bare qd2 ∧ (dw qg (D.val qd) qE = loA ∧ -20000 ≤ qE ∧ qE ≤ 20000) ∧ (dw qg2 (D.val qd2) qE2 = hiA ∧ -20000 ≤ qE2 ∧ qE2 ≤ 20000)) := ⟨hq.2, hr.2, hqw, hrw⟩
                  clear hq hr hqw hrw hB K
                  have HGE : Hid (wl21.heap.size ≤ we22.heap.size) := Below.size HBEL.out
                  have ba := below1 we22 (.cells #[.bool qg, .slice qA qm qc, .int .i64 qE, .bool qg2, .slice qA2 qm2 qc2, .int .i64 qE2] 34)
                  replace HT : Hid (Tab (we22.alloc (.cells #[.bool qg, .slice qA qm qc, .int .i64 qE, .bool qg2, .slice qA2 qm2 qc2, .int .i64 qE2] 34))) := HT.out.below ba
                  replace HL : Hid (Lims5 A1 n1 c1 xs1 A2 n2 c2 xs2 A3 n3 c3 xs3 A4 n4 c4 xs4 A5 n5 c5 xs5 (we22.alloc (.cells #[.bool qg, .slice qA qm qc, .int .i64 qE, .bool qg2, .slice qA2 qm2 qc2, .int .i64 qE2] 34))) := HL.out.below ba
                  replace Ja : Hid (Jb (we22.alloc (.cells #[.bool qg, .slice qA qm qc, .int .i64 qE, .bool qg2, .slice qA2 qm2 qc2, .int .i64 qE2] 34)) w.heap.size g1 A1 n1 c1 e1 g2 A2 n2 c2 e2) := Ja.out.below ba
                  replace Jk : Hid (Jb (we22.alloc (.cells #[.bool qg, .slice qA qm qc, .int .i64 qE, .bool qg2, .slice qA2 qm2 qc2, .int .i64 qE2] 34)) (w.heap.size + 1) g3 A3 n3 c3 e3 g4 A4 n4 c4 e4) := Jk.out.below ba
                  replace Jd : Hid (Bd (we22.alloc (.cells #[.bool qg, .slice qA qm qc, .int .i64 qE, .bool qg2, .slice qA2 qm2 qc2, .int .i64 qE2] 34)) (w.heap.size + 1 + 1) 24 g5 A5 n5 c5 e5) := Jd.out.below ba
                  replace HNi : Hid (Sb (we22.alloc (.cells #[.bool qg, .slice qA qm qc, .int .i64 qE, .bool qg2, .slice qA2 qm2 qc2, .int .i64 qE2] 34)) pi 34 d1.neg AD1 mD1 cD1 d1.e d2.neg AD2 mD2 cD2 d2.e) := HNi.out.below ba
                  replace D1 : Hid (Dn (we22.alloc (.cells #[.bool qg, .slice qA qm qc, .int .i64 qE, .bool qg2, .slice qA2 qm2 qc2, .int .i64 qE2] 34)) d1.V AD1 mD1 cD1 zD1) := D1.out.below ba
                  replace D2 : Hid (Dn (we22.alloc (.cells #[.bool qg, .slice qA qm qc, .int .i64 qE, .bool qg2, .slice qA2 qm2 qc2, .int .i64 qE2] 34)) d2.V AD2 mD2 cD2 zD2) := D2.out.below ba
                  replace HNk : Hid (Sb (we22.alloc (.cells #[.bool qg, .slice qA qm qc, .int .i64 qE, .bool qg2, .slice qA2 qm2 qc2, .int .i64 qE2] 34)) pk 34 d3.neg AD3 mD3 cD3 d3.e d4.neg AD4 mD4 cD4 d4.e) := HNk.out.below ba
                  replace D3 : Hid (Dn (we22.alloc (.cells #[.bool qg, .slice qA qm qc, .int .i64 qE, .bool qg2, .slice qA2 qm2 qc2, .int .i64 qE2] 34)) d3.V AD3 mD3 cD3 zD3) := D3.out.below ba
                  replace D4 : Hid (Dn (we22.alloc (.cells #[.bool qg, .slice qA qm qc, .int .i64 qE, .bool qg2, .slice qA2 qm2 qc2, .int .i64 qE2] 34)) d4.V AD4 mD4 cD4 zD4) := D4.out.below ba
                  replace D5 : Hid (Dn (we22.alloc (.cells #[.bool qg, .slice qA qm qc, .int .i64 qE, .bool qg2, .slice qA2 qm2 qc2, .int .i64 qE2] 34)) d5.V AD5 mD5 cD5 zD5) := D5.out.below ba
                  replace HNn : Hid (Bd (we22.alloc (.cells #[.bool qg, .slice qA qm qc, .int .i64 qE, .bool qg2, .slice qA2 qm2 qc2, .int .i64 qE2] 34)) wn7.heap.size 31 d5.neg AD5 mD5 cD5 d5.e) := HNn.out.below ba
                  replace HIs : Hid (Ib (we22.alloc (.cells #[.bool qg, .slice qA qm qc, .int .i64 qE, .bool qg2, .slice qA2 qm2 qc2, .int .i64 qE2] 34)) ps gsa Asa msa csa esa gsb Asb msb csb esb) := HIs.out.below ba
                  replace HLs : Hid (Lim (we22.alloc (.cells #[.bool qg, .slice qA qm qc, .int .i64 qE, .bool qg2, .slice qA2 qm2 qc2, .int .i64 qE2] 34)) Asa msa csa ssa) := HLs.out.below ba
                  replace HHs : Hid (Lim (we22.alloc (.cells #[.bool qg, .slice qA qm qc, .int .i64 qE, .bool qg2, .slice qA2 qm2 qc2, .int .i64 qE2] 34)) Asb msb csb ssb) := HHs.out.below ba
                  replace HIm : Hid (Ib (we22.alloc (.cells #[.bool qg, .slice qA qm qc, .int .i64 qE, .bool qg2, .slice qA2 qm2 qc2, .int .i64 qE2] 34)) pm gma Ama mma cma ema gmb Amb mmb cmb emb) := HIm.out.below ba
                  replace HLm : Hid (Lim (we22.alloc (.cells #[.bool qg, .slice qA qm qc, .int .i64 qE, .bool qg2, .slice qA2 qm2 qc2, .int .i64 qE2] 34)) Ama mma cma sma) := HLm.out.below ba
                  replace HHm : Hid (Lim (we22.alloc (.cells #[.bool qg, .slice qA qm qc, .int .i64 qE, .bool qg2, .slice qA2 qm2 qc2, .int .i64 qE2] 34)) Amb mmb cmb smb) := HHm.out.below ba
                  replace HIt : Hid (Ib (we22.alloc (.cells #[.bool qg, .slice qA qm qc, .int .i64 qE, .bool qg2, .slice qA2 qm2 qc2, .int .i64 qE2] 34)) pt gta Ata mta cta eta gtb Atb mtb ctb etb) := HIt.out.below ba
                  replace HLt : Hid (Lim (we22.alloc (.cells #[.bool qg, .slice qA qm qc, .int .i64 qE, .bool qg2, .slice qA2 qm2 qc2, .int .i64 qE2] 34)) Ata mta cta sta) := HLt.out.below ba
                  replace HHt : Hid (Lim (we22.alloc (.cells #[.bool qg, .slice qA qm qc, .int .i64 qE, .bool qg2, .slice qA2 qm2 qc2, .int .i64 qE2] 34)) Atb mtb ctb stb) := HHt.out.below ba
                  replace HLw : Hid (Lim (we22.alloc (.cells #[.bool qg, .slice qA qm qc, .int .i64 qE, .bool qg2, .slice qA2 qm2 qc2, .int .i64 qE2] 34)) Aw mw cw sw) := HLw.out.below ba
                  replace HW : Hid (Bd (we22.alloc (.cells #[.bool qg, .slice qA qm qc, .int .i64 qE, .bool qg2, .slice qA2 qm2 qc2, .int .i64 qE2] 34)) wv14.heap.size 36 gw Aw mw cw ew) := HW.out.below ba
                  replace HXb : Hid (Bd (we22.alloc (.cells #[.bool qg, .slice qA qm qc, .int .i64 qE, .bool qg2, .slice qA2 qm2 qc2, .int .i64 qE2] 34)) uq18.heap.size 31 (!d1.neg) AD1 mD1 cD1 d1.e) := HXb.out.below ba
                  replace HLy : Hid (Lim (we22.alloc (.cells #[.bool qg, .slice qA qm qc, .int .i64 qE, .bool qg2, .slice qA2 qm2 qc2, .int .i64 qE2] 34)) Ay my cy zy) := HLy.out.below ba
                  replace HY : Hid (Bd (we22.alloc (.cells #[.bool qg, .slice qA qm qc, .int .i64 qE, .bool qg2, .slice qA2 qm2 qc2, .int .i64 qE2] 34)) wy20.heap.size 24 z.neg Ay my cy z.e) := HY.out.below ba
                  replace HBEL : Hid (Bel wl21 (we22.alloc (.cells #[.bool qg, .slice qA qm qc, .int .i64 qE, .bool qg2, .slice qA2 qm2 qc2, .int .i64 qE2] 34))) := HBEL.out.below ba
                  replace HDq : Hid (Dig (we22.alloc (.cells #[.bool qg, .slice qA qm qc, .int .i64 qE, .bool qg2, .slice qA2 qm2 qc2, .int .i64 qE2] 34)) qA qm qc qd) := HDq.out.below ba
                  replace HEq : Hid (Dig (we22.alloc (.cells #[.bool qg, .slice qA qm qc, .int .i64 qE, .bool qg2, .slice qA2 qm2 qc2, .int .i64 qE2] 34)) qA2 qm2 qc2 qd2) := HEq.out.below ba
                  replace HS := Lib.hid (HS.out.trans (ba.mono HS.out.size))
                  clear ba
                  have HO : Hid (Sb (we22.alloc (.cells #[.bool qg, .slice qA qm qc, .int .i64 qE, .bool qg2, .slice qA2 qm2 qc2, .int .i64 qE2] 34)) we22.heap.size 34 qg qA qm qc qE qg2 qA2 qm2 qc2 qE2) := Sb.new we22 34 qg qA qm qc qE qg2 qA2 qm2 qc2 qE2
                  have HW_0 := HW.out.c0
                  have HW_1 := HW.out.c1
                  have HW_2 := HW.out.c2
                  have HY_0 := HY.out.c0
                  have HY_1 := HY.out.c1
                  have HY_2 := HY.out.c2
                  have eW : gw = z.neg ∧ val sw = z.V ∧ ew = z.e := ⟨congrArg Dy.neg HMW.out, congrArg Dy.V HMW.out, congrArg Dy.e HMW.out⟩
                  have K : Hid (Calls Tryd.prog 22 #[.agg #[.bool gw, .slice Aw mw cw, .int .i64 ew], .agg #[.bool z.neg, .slice Ay my cy, .int .i64 z.e]] (we22.alloc (.cells #[.bool qg, .slice qA qm qc, .int .i64 qE, .bool qg2, .slice qA2 qm2 qc2, .int .i64 qE2] 34)) (fun e w' => e = .returned (.bool true) ∧ Below (we22.alloc (.cells #[.bool qg, .slice qA qm qc, .int .i64 qE, .bool qg2, .slice qA2 qm2 qc2, .int .i64 qE2] 34)).heap.size (we22.alloc (.cells #[.bool qg, .slice qA qm qc, .int .i64 qE, .bool qg2, .slice qA2 qm2 qc2, .int .i64 qE2] 34)) w')) := by
                    rw [eW.1, eW.2.2]
                    exact Lib.hid (dsame_val z.neg Aw mw cw sw z.e Ay my cy zy (we22.alloc (.cells #[.bool qg, .slice qA qm qc, .int .i64 qE, .bool qg2, .slice qA2 qm2 qc2, .int .i64 qE2] 34)) HLw.out HLy.out HBw.out HVy.out.1 (eW.2.1.trans HVy.out.2.symm) (by omega))
                  clear eW
                  go_wp2_with fail
                  refine K.out.mono ?_
                  rintro e w23 ⟨rfl, hB⟩
                  clear HW_0 HW_1 HW_2 HY_0 HY_1 HY_2
                  replace HT : Hid (Tab w23) := HT.out.below hB
                  replace HL : Hid (Lims5 A1 n1 c1 xs1 A2 n2 c2 xs2 A3 n3 c3 xs3 A4 n4 c4 xs4 A5 n5 c5 xs5 w23) := HL.out.below hB
                  replace Ja : Hid (Jb w23 w.heap.size g1 A1 n1 c1 e1 g2 A2 n2 c2 e2) := Ja.out.below hB
                  replace Jk : Hid (Jb w23 (w.heap.size + 1) g3 A3 n3 c3 e3 g4 A4 n4 c4 e4) := Jk.out.below hB
                  replace Jd : Hid (Bd w23 (w.heap.size + 1 + 1) 24 g5 A5 n5 c5 e5) := Jd.out.below hB
                  replace HNi : Hid (Sb w23 pi 34 d1.neg AD1 mD1 cD1 d1.e d2.neg AD2 mD2 cD2 d2.e) := HNi.out.below hB
                  replace D1 : Hid (Dn w23 d1.V AD1 mD1 cD1 zD1) := D1.out.below hB
                  replace D2 : Hid (Dn w23 d2.V AD2 mD2 cD2 zD2) := D2.out.below hB
                  replace HNk : Hid (Sb w23 pk 34 d3.neg AD3 mD3 cD3 d3.e d4.neg AD4 mD4 cD4 d4.e) := HNk.out.below hB
                  replace D3 : Hid (Dn w23 d3.V AD3 mD3 cD3 zD3) := D3.out.below hB
                  replace D4 : Hid (Dn w23 d4.V AD4 mD4 cD4 zD4) := D4.out.below hB
                  replace D5 : Hid (Dn w23 d5.V AD5 mD5 cD5 zD5) := D5.out.below hB
                  replace HNn : Hid (Bd w23 wn7.heap.size 31 d5.neg AD5 mD5 cD5 d5.e) := HNn.out.below hB
                  replace HIs : Hid (Ib w23 ps gsa Asa msa csa esa gsb Asb msb csb esb) := HIs.out.below hB
                  replace HLs : Hid (Lim w23 Asa msa csa ssa) := HLs.out.below hB
                  replace HHs : Hid (Lim w23 Asb msb csb ssb) := HHs.out.below hB
                  replace HIm : Hid (Ib w23 pm gma Ama mma cma ema gmb Amb mmb cmb emb) := HIm.out.below hB
                  replace HLm : Hid (Lim w23 Ama mma cma sma) := HLm.out.below hB
                  replace HHm : Hid (Lim w23 Amb mmb cmb smb) := HHm.out.below hB
                  replace HIt : Hid (Ib w23 pt gta Ata mta cta eta gtb Atb mtb ctb etb) := HIt.out.below hB
                  replace HLt : Hid (Lim w23 Ata mta cta sta) := HLt.out.below hB
                  replace HHt : Hid (Lim w23 Atb mtb ctb stb) := HHt.out.below hB
                  replace HLw : Hid (Lim w23 Aw mw cw sw) := HLw.out.below hB
                  replace HW : Hid (Bd w23 wv14.heap.size 36 gw Aw mw cw ew) := HW.out.below hB
                  replace HXb : Hid (Bd w23 uq18.heap.size 31 (!d1.neg) AD1 mD1 cD1 d1.e) := HXb.out.below hB
                  replace HLy : Hid (Lim w23 Ay my cy zy) := HLy.out.below hB
                  replace HY : Hid (Bd w23 wy20.heap.size 24 z.neg Ay my cy z.e) := HY.out.below hB
                  replace HBEL : Hid (Bel wl21 w23) := HBEL.out.below hB
                  replace HDq : Hid (Dig w23 qA qm qc qd) := HDq.out.below hB
                  replace HEq : Hid (Dig w23 qA2 qm2 qc2 qd2) := HEq.out.below hB
                  replace HO : Hid (Sb w23 we22.heap.size 34 qg qA qm qc qE qg2 qA2 qm2 qc2 qE2) := HO.out.below hB
                  replace HS := Lib.hid (HS.out.trans (hB.mono HS.out.size))
                  clear hB K
                  have HIt_0 := HIt.out.x0
                  have HIt_1 := HIt.out.x1
                  have HIt_2 := HIt.out.x2
                  have HIt_3 := HIt.out.x3
                  have HIt_4 := HIt.out.x4
                  have HIt_5 := HIt.out.x5
                  have HO_0 := HO.out.x0
                  have HO_1 := HO.out.x1
                  have HO_2 := HO.out.x2
                  have HO_3 := HO.out.x3
                  have HO_4 := HO.out.x4
                  have HO_5 := HO.out.x5
                  have q1 := (nO_worth HMT.out.1.1 (by omega) HVq.out.2.2.1.2.1 HVq.out.2.2.1.2.2 (HVq.out.2.2.1.1.trans HMT.out.2.1.symm)).1
                  have q2 := (nO_worth HMT.out.1.2 (by omega) HVq.out.2.2.2.2.1 HVq.out.2.2.2.2.2 (HVq.out.2.2.2.1.trans HMT.out.2.2.symm)).1
                  have k1 : -9000 ≤ eta ∧ eta ≤ 9000 := sp_e HMT.out.1.1
                  have k2 : -9000 ≤ etb ∧ etb ≤ 9000 := sp_e HMT.out.1.2
                  have K := Lib.hid (tells_l gta Ata mta cta sta eta gtb Atb mtb ctb stb etb qg qA qm qc qd qE qg2 qA2 qm2 qc2 qd2 qE2 w23 HLt.out HHt.out HBt.out.1 HBt.out.2 HDq.out HEq.out HVq.out.1 HVq.out.2.1 hmta hmtb (by omega) (by omega) (by omega) (by omega) (by omega) (by omega) q1 q2)
                  clear q1 q2 k1 k2
                  go_wp2_with fail
                  refine K.out.mono ?_
                  rintro e w24 ⟨rfl, hB⟩
                  clear HIt_0 HIt_1 HIt_2 HIt_3 HIt_4 HIt_5 HO_0 HO_1 HO_2 HO_3 HO_4 HO_5
                  replace HT : Hid (Tab w24) := HT.out.below hB
                  replace HL : Hid (Lims5 A1 n1 c1 xs1 A2 n2 c2 xs2 A3 n3 c3 xs3 A4 n4 c4 xs4 A5 n5 c5 xs5 w24) := HL.out.below hB
                  replace Ja : Hid (Jb w24 w.heap.size g1 A1 n1 c1 e1 g2 A2 n2 c2 e2) := Ja.out.below hB
                  replace Jk : Hid (Jb w24 (w.heap.size + 1) g3 A3 n3 c3 e3 g4 A4 n4 c4 e4) := Jk.out.below hB
                  replace Jd : Hid (Bd w24 (w.heap.size + 1 + 1) 24 g5 A5 n5 c5 e5) := Jd.out.below hB
                  replace HNi : Hid (Sb w24 pi 34 d1.neg AD1 mD1 cD1 d1.e d2.neg AD2 mD2 cD2 d2.e) := HNi.out.below hB
                  replace D1 : Hid (Dn w24 d1.V AD1 mD1 cD1 zD1) := D1.out.below hB
                  replace D2 : Hid (Dn w24 d2.V AD2 mD2 cD2 zD2) := D2.out.below hB
                  replace HNk : Hid (Sb w24 pk 34 d3.neg AD3 mD3 cD3 d3.e d4.neg AD4 mD4 cD4 d4.e) := HNk.out.below hB
                  replace D3 : Hid (Dn w24 d3.V AD3 mD3 cD3 zD3) := D3.out.below hB
                  replace D4 : Hid (Dn w24 d4.V AD4 mD4 cD4 zD4) := D4.out.below hB
                  replace D5 : Hid (Dn w24 d5.V AD5 mD5 cD5 zD5) := D5.out.below hB
                  replace HNn : Hid (Bd w24 wn7.heap.size 31 d5.neg AD5 mD5 cD5 d5.e) := HNn.out.below hB
                  replace HIs : Hid (Ib w24 ps gsa Asa msa csa esa gsb Asb msb csb esb) := HIs.out.below hB
                  replace HLs : Hid (Lim w24 Asa msa csa ssa) := HLs.out.below hB
                  replace HHs : Hid (Lim w24 Asb msb csb ssb) := HHs.out.below hB
                  replace HIm : Hid (Ib w24 pm gma Ama mma cma ema gmb Amb mmb cmb emb) := HIm.out.below hB
                  replace HLm : Hid (Lim w24 Ama mma cma sma) := HLm.out.below hB
                  replace HHm : Hid (Lim w24 Amb mmb cmb smb) := HHm.out.below hB
                  replace HIt : Hid (Ib w24 pt gta Ata mta cta eta gtb Atb mtb ctb etb) := HIt.out.below hB
                  replace HLt : Hid (Lim w24 Ata mta cta sta) := HLt.out.below hB
                  replace HHt : Hid (Lim w24 Atb mtb ctb stb) := HHt.out.below hB
                  replace HLw : Hid (Lim w24 Aw mw cw sw) := HLw.out.below hB
                  replace HW : Hid (Bd w24 wv14.heap.size 36 gw Aw mw cw ew) := HW.out.below hB
                  replace HXb : Hid (Bd w24 uq18.heap.size 31 (!d1.neg) AD1 mD1 cD1 d1.e) := HXb.out.below hB
                  replace HLy : Hid (Lim w24 Ay my cy zy) := HLy.out.below hB
                  replace HY : Hid (Bd w24 wy20.heap.size 24 z.neg Ay my cy z.e) := HY.out.below hB
                  replace HBEL : Hid (Bel wl21 w24) := HBEL.out.below hB
                  replace HDq : Hid (Dig w24 qA qm qc qd) := HDq.out.below hB
                  replace HEq : Hid (Dig w24 qA2 qm2 qc2 qd2) := HEq.out.below hB
                  replace HO : Hid (Sb w24 we22.heap.size 34 qg qA qm qc qE qg2 qA2 qm2 qc2 qE2) := HO.out.below hB
                  replace HS := Lib.hid (HS.out.trans (hB.mono HS.out.size))
                  clear hB K
                  clear HMT HMW HBt HBw HVy HVq
                  cases v2
                  · skip
                    obtain ⟨rfl, rfl, q3⟩ := HX.out.F2 rfl
                    obtain rfl := q3 _ _ _ _ HQm.out.2.2
                    clear q3
                    have HIm_0 := HIm.out.x0
                    have HIm_1 := HIm.out.x1
                    have HIm_2 := HIm.out.x2
                    have HIm_3 := HIm.out.x3
                    have HIm_4 := HIm.out.x4
                    have HIm_5 := HIm.out.x5
                    have Hfin := Lib.hid HS.out
                    clear HS HT HL Ja Jk Jd HNi D1 D2 HNk D3 D4 D5 HNn HIs HLs HHs HIm HLm HHm HIt HLt HHt HLw HW HXb HLy HY HBEL HDq HEq HO HX HQs HQm KA
                    go_wp2
                    go_ret
                    exact ⟨rfl, Hfin.out⟩
                  · skip
                    obtain ⟨rfl, rfl, MS, MM⟩ := HX.out.F3 rfl rfl
                    have HMM := Lib.hid (MM _ _ _ _ HQm.out.2.2)
                    have HMS := Lib.hid (MS _ _ _ _ HQs.out.2.2)
                    clear MS MM
                    have HBm : Hid (Bare sma ∧ Bare smb) := ⟨HQm.out.1, HQm.out.2.1⟩
                    have HBs : Hid (Bare ssa ∧ Bare ssb) := ⟨HQs.out.1, HQs.out.2.1⟩
                    clear HQm HQs
                    have HNi_0 := HNi.out.x0
                    have HNi_1 := HNi.out.x1
                    have HNi_2 := HNi.out.x2
                    have HNi_3 := HNi.out.x3
                    have HNi_4 := HNi.out.x4
                    have HNi_5 := HNi.out.x5
                    have HNk_0 := HNk.out.x0
                    have HNk_1 := HNk.out.x1
                    have HNk_2 := HNk.out.x2
                    have HNk_3 := HNk.out.x3
                    have HNk_4 := HNk.out.x4
                    have HNk_5 := HNk.out.x5
                    have K := Lib.hid (HX.out.EB w24 _ _ _ _ _ _ _ _ _ _ _ _ _ _ _ _ D1.out D2.out D3.out D4.out)
                    go_wp2_with fail
                    refine K.out.mono ?_
                    rintro e we25 ⟨jg, jA, jm, jc, jd, jE, jg2, jA2, jm2, jc2, jd2, jE2, rfl, jh1, jh2, hq, hr, hqw, hrw, hB⟩
                    clear HNi_0 HNi_1 HNi_2 HNi_3 HNi_4 HNi_5 HNk_0 HNk_1 HNk_2 HNk_3 HNk_4 HNk_5
                    replace HT : Hid (Tab we25) := HT.out.below hB
                    replace HL : Hid (Lims5 A1 n1 c1 xs1 A2 n2 c2 xs2 A3 n3 c3 xs3 A4 n4 c4 xs4 A5 n5 c5 xs5 we25) := HL.out.below hB
                    replace Ja : Hid (Jb we25 w.heap.size g1 A1 n1 c1 e1 g2 A2 n2 c2 e2) := Ja.out.below hB
                    replace Jk : Hid (Jb we25 (w.heap.size + 1) g3 A3 n3 c3 e3 g4 A4 n4 c4 e4) := Jk.out.below hB
                    replace Jd : Hid (Bd we25 (w.heap.size + 1 + 1) 24 g5 A5 n5 c5 e5) := Jd.out.below hB
                    replace HNi : Hid (Sb we25 pi 34 d1.neg AD1 mD1 cD1 d1.e d2.neg AD2 mD2 cD2 d2.e) := HNi.out.below hB
                    replace D1 : Hid (Dn we25 d1.V AD1 mD1 cD1 zD1) := D1.out.below hB
                    replace D2 : Hid (Dn we25 d2.V AD2 mD2 cD2 zD2) := D2.out.below hB
                    replace HNk : Hid (Sb we25 pk 34 d3.neg AD3 mD3 cD3 d3.e d4.neg AD4 mD4 cD4 d4.e) := HNk.out.below hB
                    replace D3 : Hid (Dn we25 d3.V AD3 mD3 cD3 zD3) := D3.out.below hB
                    replace D4 : Hid (Dn we25 d4.V AD4 mD4 cD4 zD4) := D4.out.below hB
                    replace D5 : Hid (Dn we25 d5.V AD5 mD5 cD5 zD5) := D5.out.below hB
                    replace HNn : Hid (Bd we25 wn7.heap.size 31 d5.neg AD5 mD5 cD5 d5.e) := HNn.out.below hB
                    replace HIs : Hid (Ib we25 ps gsa Asa msa csa esa gsb Asb msb csb esb) := HIs.out.below hB
                    replace HLs : Hid (Lim we25 Asa msa csa ssa) := HLs.out.below hB
                    replace HHs : Hid (Lim we25 Asb msb csb ssb) := HHs.out.below hB
                    replace HIm : Hid (Ib we25 pm gma Ama mma cma ema gmb Amb mmb cmb emb) := HIm.out.below hB
                    replace HLm : Hid (Lim we25 Ama mma cma sma) := HLm.out.below hB
                    replace HHm : Hid (Lim we25 Amb mmb cmb smb) := HHm.out.below hB
                    replace HIt : Hid (Ib we25 pt gta Ata mta cta eta gtb Atb mtb ctb etb) := HIt.out.below hB
                    replace HLt : Hid (Lim we25 Ata mta cta sta) := HLt.out.below hB
                    replace HHt : Hid (Lim we25 Atb mtb ctb stb) := HHt.out.below hB
                    replace HLw : Hid (Lim we25 Aw mw cw sw) := HLw.out.below hB
                    replace HW : Hid (Bd we25 wv14.heap.size 36 gw Aw mw cw ew) := HW.out.below hB
                    replace HXb : Hid (Bd we25 uq18.heap.size 31 (!d1.neg) AD1 mD1 cD1 d1.e) := HXb.out.below hB
                    replace HLy : Hid (Lim we25 Ay my cy zy) := HLy.out.below hB
                    replace HY : Hid (Bd we25 wy20.heap.size 24 z.neg Ay my cy z.e) := HY.out.below hB
                    replace HBEL : Hid (Bel wl21 we25) := HBEL.out.below hB
                    replace HDq : Hid (Dig we25 qA qm qc qd) := HDq.out.below hB
                    replace HEq : Hid (Dig we25 qA2 qm2 qc2 qd2) := HEq.out.below hB
                    replace HO : Hid (Sb we25 we22.heap.size 34 qg qA qm qc qE qg2 qA2 qm2 qc2 qE2) := HO.out.below hB
                    replace HS := Lib.hid (HS.out.trans (hB.mono HS.out.size))
                    have HDj : Hid (Dig we25 jA jm jc jd) := hq.1
                    have HEj : Hid (Dig we25 jA2 jm2 jc2 jd2) := hr.1
                    have HVj : Hid (D.Bare jd ∧ D.Bare jd2 ∧ (dw jg (D.val jd) jE = loB ∧ -20000 ≤ jE ∧ jE ≤ 20000) ∧ (dw jg2 (D.val jd2) jE2 = hiB ∧ -20000 ≤ jE2 ∧ jE2 ≤ 20000)) := ⟨hq.2, hr.2, hqw, hrw⟩
                    clear hq hr hqw hrw hB K
                    have HO_0 := HO.out.x0
                    have HO_1 := HO.out.x1
                    have HO_2 := HO.out.x2
                    have HO_3 := HO.out.x3
                    have HO_4 := HO.out.x4
                    have HO_5 := HO.out.x5
                    have HO_f := HO.out.fz
                    go_upto_region 28 with fail
                    clear HO_0 HO_1 HO_2 HO_3 HO_4 HO_5 HO_f
                    obtain ⟨uu, huu⟩ : ∃ u, ((((((we25.setCell ⟨we22.heap.size, 0, none⟩ (.bool jg)).setCell ⟨we22.heap.size, 1, none⟩ (.slice jA jm jc)).setCell ⟨we22.heap.size, 2, none⟩ (.int .i64 jE)).setCell ⟨we22.heap.size, 3, none⟩ (.bool jg2)).setCell ⟨we22.heap.size, 4, none⟩ (.slice jA2 jm2 jc2)).setCell ⟨we22.heap.size, 5, none⟩ (.int .i64 jE2)) = u := ⟨_, rfl⟩
                    rw [huu]
                    have hge : wl21.heap.size ≤ we22.heap.size := HGE.out
                    have BU : Below wl21.heap.size wl21 uu := by rw [← huu]; exact below_put6 HBEL.out hge _ _ _ _ _ _ _ _ _ _
                    have KB := Lib.hid (KA.out uu BU)
                    have HO2 : Hid (Sb uu we22.heap.size 34 jg jA jm jc jE jg2 jA2 jm2 jc2 jE2) := by rw [← huu]; exact HO.out.put _ _ _ _ _ _ _ _ _ _
                    have HDj2 : Hid (Dig uu jA jm jc jd) := by rw [← huu]; exact HO.out.dig HDj.out _ _ _ _ _ _ _ _ _ _
                    have HEj2 : Hid (Dig uu jA2 jm2 jc2 jd2) := by rw [← huu]; exact HO.out.dig HEj.out _ _ _ _ _ _ _ _ _ _
                    have HS2 := Lib.hid (HSB.out.trans (BU.mono HSB.out.size))
                    clear HS huu BU hge HT HL Ja Jk Jd HNi D1 D2 HNk D3 D4 D5 HNn HIs HLs HHs HIm HLm HHm HIt HLt HHt HLw HW HXb HLy HY HBEL HDq HEq HO HDj HEj
                    have HS := HS2
                    clear HS2
                    have HT : Hid (Tab uu) := KB.out.1
                    have HNi : Hid (Sb uu pi 34 d1.neg AD1 mD1 cD1 d1.e d2.neg AD2 mD2 cD2 d2.e) := KB.out.2.1
                    have HNk : Hid (Sb uu pk 34 d3.neg AD3 mD3 cD3 d3.e d4.neg AD4 mD4 cD4 d4.e) := KB.out.2.2.1
                    have D1 : Hid (Dn uu d1.V AD1 mD1 cD1 zD1) := KB.out.2.2.2.1
                    have D2 : Hid (Dn uu d2.V AD2 mD2 cD2 zD2) := KB.out.2.2.2.2.1
                    have D3 : Hid (Dn uu d3.V AD3 mD3 cD3 zD3) := KB.out.2.2.2.2.2.1
                    have D4 : Hid (Dn uu d4.V AD4 mD4 cD4 zD4) := KB.out.2.2.2.2.2.2.1
                    have HIs : Hid (Ib uu ps gsa Asa msa csa esa gsb Asb msb csb esb) := KB.out.2.2.2.2.2.2.2.1
                    have HLs : Hid (Lim uu Asa msa csa ssa) := KB.out.2.2.2.2.2.2.2.2.1
                    have HHs : Hid (Lim uu Asb msb csb ssb) := KB.out.2.2.2.2.2.2.2.2.2.1
                    have HIm : Hid (Ib uu pm gma Ama mma cma ema gmb Amb mmb cmb emb) := KB.out.2.2.2.2.2.2.2.2.2.2.1
                    have HLm : Hid (Lim uu Ama mma cma sma) := KB.out.2.2.2.2.2.2.2.2.2.2.2.1
                    have HHm : Hid (Lim uu Amb mmb cmb smb) := KB.out.2.2.2.2.2.2.2.2.2.2.2.2
                    clear KA KB
                    have HO := HO2
                    clear HO2
                    have HDj := HDj2
                    clear HDj2
                    have HEj := HEj2
                    clear HEj2
                    have CO1 : Hid (∀ v, Below uu.heap.size uu v → Calls Tryd.prog 20 #[.agg #[.bool d1.neg, .slice AD1 mD1 cD1, .int .i64 d1.e], .agg #[.bool d3.neg, .slice AD3 mD3 cD3, .int .i64 d3.e]] v (NTold v o1 600)) := fun v hs => HX.out.S1.2 _ _ _ _ _ _ _ _ _ (D1.out.below hs) (D3.out.below hs)
                    have CO2 : Hid (∀ v, Below uu.heap.size uu v → Calls Tryd.prog 20 #[.agg #[.bool d2.neg, .slice AD2 mD2 cD2, .int .i64 d2.e], .agg #[.bool d4.neg, .slice AD4 mD4 cD4, .int .i64 d4.e]] v (NTold v o2 600)) := fun v hs => HX.out.S2.2 _ _ _ _ _ _ _ _ _ (D2.out.below hs) (D4.out.below hs)
                    have q1 := (nO_worth HMM.out.1.1 (by omega) HVj.out.2.2.1.2.1 HVj.out.2.2.1.2.2 (HVj.out.2.2.1.1.trans HMM.out.2.1.symm)).1
                    have q2 := (nO_worth HMM.out.1.2 (by omega) HVj.out.2.2.2.2.1 HVj.out.2.2.2.2.2 (HVj.out.2.2.2.1.trans HMM.out.2.2.symm)).1
                    have k1 : -9000 ≤ ema ∧ ema ≤ 9000 := sp_e HMM.out.1.1
                    have k2 : -9000 ≤ emb ∧ emb ≤ 9000 := sp_e HMM.out.1.2
                    have CE2 : Hid (∀ vv, Below uu.heap.size uu vv → Calls Tryd.prog 23 #[.agg #[.bool gma, .slice Ama mma cma, .int .i64 ema, .bool gmb, .slice Amb mmb cmb, .int .i64 emb], .agg #[.bool jg, .slice jA jm jc, .int .i64 jE], .agg #[.bool jg2, .slice jA2 jm2 jc2, .int .i64 jE2]] vv (fun e w' => e = .returned (.bool true) ∧ Below vv.heap.size vv w')) := fun vv hs => tells_l gma Ama mma cma sma ema gmb Amb mmb cmb smb emb jg jA jm jc jd jE jg2 jA2 jm2 jc2 jd2 jE2 vv (HLm.out.below hs) (HHm.out.below hs) HBm.out.1 HBm.out.2 (HDj.out.below hs) (HEj.out.below hs) HVj.out.1 HVj.out.2.1 hmma hmmb (by omega) (by omega) (by omega) (by omega) (by omega) (by omega) q1 q2
                    clear q1 q2 k1 k2
                    have k1 : -4000 ≤ esa ∧ esa ≤ 4000 := by have h := sp_e HX.out.HSp.1; rw [← HMS.out.1] at h; exact h
                    have k2 : -4000 ≤ esb ∧ esb ≤ 4000 := by have h := sp_e HX.out.HSp.2.1; rw [← HMS.out.2] at h; exact h
                    have q1 : nO o1.neg o1.V o1.e = ⟨gsa, val ssa, esa⟩ := HX.out.S1.1.trans HMS.out.1.symm
                    have q2 : nO o2.neg o2.V o2.e = ⟨gsb, val ssb, esb⟩ := HX.out.S2.1.trans HMS.out.2.symm
                    have CE1 : Hid (∀ vv A n c ds B m k es, ((Dig vv A n c ds ∧ D.Bare ds ∧ n ≤ 600 ∧ D.val ds = o1.V) ∧ (Dig vv B m k es ∧ D.Bare es ∧ m ≤ 600 ∧ D.val es = o2.V)) → Below uu.heap.size uu vv → Calls Tryd.prog 23 #[.agg #[.bool gsa, .slice Asa msa csa, .int .i64 esa, .bool gsb, .slice Asb msb csb, .int .i64 esb], .agg #[.bool o1.neg, .slice A n c, .int .i64 o1.e], .agg #[.bool o2.neg, .slice B m k, .int .i64 o2.e]] vv (fun e w' => e = .returned (.bool true) ∧ Below vv.heap.size vv w')) := fun vv A n c ds B m k es h hs => tells_l gsa Asa msa csa ssa esa gsb Asb msb csb ssb esb o1.neg A n c ds o1.e o2.neg B m k es o2.e vv (HLs.out.below hs) (HHs.out.below hs) HBs.out.1 HBs.out.2 h.1.1 h.2.1 h.1.2.1 h.2.2.1 hmsa hmsb (by have := h.1.2.2.1; omega) (by have := h.2.2.2.1; omega) (by omega) (by omega) (by omega) (by omega) (by rw [h.1.2.2.2]; exact q1) (by rw [h.2.2.2.2]; exact q2)
                    clear q1 q2 k1 k2
                    have KEEP : Hid (∀ v, Below uu.heap.size uu v → v.cell? ⟨pi, 0, none⟩ = some (.bool d1.neg) ∧ v.cell? ⟨pi, 1, none⟩ = some (.slice AD1 mD1 cD1) ∧ v.cell? ⟨pi, 2, none⟩ = some (.int .i64 d1.e) ∧ v.cell? ⟨pi, 3, none⟩ = some (.bool d2.neg) ∧ v.cell? ⟨pi, 4, none⟩ = some (.slice AD2 mD2 cD2) ∧ v.cell? ⟨pi, 5, none⟩ = some (.int .i64 d2.e) ∧ v.cell? ⟨pk, 0, none⟩ = some (.bool d3.neg) ∧ v.cell? ⟨pk, 1, none⟩ = some (.slice AD3 mD3 cD3) ∧ v.cell? ⟨pk, 2, none⟩ = some (.int .i64 d3.e) ∧ v.cell? ⟨pk, 3, none⟩ = some (.bool d4.neg) ∧ v.cell? ⟨pk, 4, none⟩ = some (.slice AD4 mD4 cD4) ∧ v.cell? ⟨pk, 5, none⟩ = some (.int .i64 d4.e) ∧ v.cell? ⟨ps, 0, none⟩ = some (.bool gsa) ∧ v.cell? ⟨ps, 1, none⟩ = some (.slice Asa msa csa) ∧ v.cell? ⟨ps, 2, none⟩ = some (.int .i64 esa) ∧ v.cell? ⟨ps, 3, none⟩ = some (.bool gsb) ∧ v.cell? ⟨ps, 4, none⟩ = some (.slice Asb msb csb) ∧ v.cell? ⟨ps, 5, none⟩ = some (.int .i64 esb) ∧ v.cell? ⟨pm, 0, none⟩ = some (.bool gma) ∧ v.cell? ⟨pm, 1, none⟩ = some (.slice Ama mma cma) ∧ v.cell? ⟨pm, 2, none⟩ = some (.int .i64 ema) ∧ v.cell? ⟨pm, 3, none⟩ = some (.bool gmb) ∧ v.cell? ⟨pm, 4, none⟩ = some (.slice Amb mmb cmb) ∧ v.cell? ⟨pm, 5, none⟩ = some (.int .i64 emb) ∧ v.cell? ⟨we22.heap.size, 0, none⟩ = some (.bool jg) ∧ v.cell? ⟨we22.heap.size, 1, none⟩ = some (.slice jA jm jc) ∧ v.cell? ⟨we22.heap.size, 2, none⟩ = some (.int .i64 jE) ∧ v.cell? ⟨we22.heap.size, 3, none⟩ = some (.bool jg2) ∧ v.cell? ⟨we22.heap.size, 4, none⟩ = some (.slice jA2 jm2 jc2) ∧ v.cell? ⟨we22.heap.size, 5, none⟩ = some (.int .i64 jE2)) := fun v hv => ⟨(HNi.out.below hv).x0, (HNi.out.below hv).x1, (HNi.out.below hv).x2, (HNi.out.below hv).x3, (HNi.out.below hv).x4, (HNi.out.below hv).x5, (HNk.out.below hv).x0, (HNk.out.below hv).x1, (HNk.out.below hv).x2, (HNk.out.below hv).x3, (HNk.out.below hv).x4, (HNk.out.below hv).x5, (HIs.out.below hv).x0, (HIs.out.below hv).x1, (HIs.out.below hv).x2, (HIs.out.below hv).x3, (HIs.out.below hv).x4, (HIs.out.below hv).x5, (HIm.out.below hv).x0, (HIm.out.below hv).x1, (HIm.out.below hv).x2, (HIm.out.below hv).x3, (HIm.out.below hv).x4, (HIm.out.below hv).x5, (HO.out.below hv).x0, (HO.out.below hv).x1, (HO.out.below hv).x2, (HO.out.below hv).x3, (HO.out.below hv).x4, (HO.out.below hv).x5⟩
                    clear HX HMS HMM HBm HBs HVj HT HNi D1 D2 HNk D3 D4 HIs HLs HHs HIm HLm HHm HO HDj HEj
                    have cur : Hid (Below uu.heap.size uu uu.drew) := below_drew _
                    go_wp2_with fail
                    go_region_held3 (fun v => v.cell? ⟨pi, 0, none⟩ = some (.bool d1.neg) ∧ v.cell? ⟨pi, 1, none⟩ = some (.slice AD1 mD1 cD1) ∧ v.cell? ⟨pi, 2, none⟩ = some (.int .i64 d1.e) ∧ v.cell? ⟨pi, 3, none⟩ = some (.bool d2.neg) ∧ v.cell? ⟨pi, 4, none⟩ = some (.slice AD2 mD2 cD2) ∧ v.cell? ⟨pi, 5, none⟩ = some (.int .i64 d2.e) ∧ v.cell? ⟨pk, 0, none⟩ = some (.bool d3.neg) ∧ v.cell? ⟨pk, 1, none⟩ = some (.slice AD3 mD3 cD3) ∧ v.cell? ⟨pk, 2, none⟩ = some (.int .i64 d3.e) ∧ v.cell? ⟨pk, 3, none⟩ = some (.bool d4.neg) ∧ v.cell? ⟨pk, 4, none⟩ = some (.slice AD4 mD4 cD4) ∧ v.cell? ⟨pk, 5, none⟩ = some (.int .i64 d4.e) ∧ v.cell? ⟨ps, 0, none⟩ = some (.bool gsa) ∧ v.cell? ⟨ps, 1, none⟩ = some (.slice Asa msa csa) ∧ v.cell? ⟨ps, 2, none⟩ = some (.int .i64 esa) ∧ v.cell? ⟨ps, 3, none⟩ = some (.bool gsb) ∧ v.cell? ⟨ps, 4, none⟩ = some (.slice Asb msb csb) ∧ v.cell? ⟨ps, 5, none⟩ = some (.int .i64 esb) ∧ v.cell? ⟨pm, 0, none⟩ = some (.bool gma) ∧ v.cell? ⟨pm, 1, none⟩ = some (.slice Ama mma cma) ∧ v.cell? ⟨pm, 2, none⟩ = some (.int .i64 ema) ∧ v.cell? ⟨pm, 3, none⟩ = some (.bool gmb) ∧ v.cell? ⟨pm, 4, none⟩ = some (.slice Amb mmb cmb) ∧ v.cell? ⟨pm, 5, none⟩ = some (.int .i64 emb) ∧ v.cell? ⟨we22.heap.size, 0, none⟩ = some (.bool jg) ∧ v.cell? ⟨we22.heap.size, 1, none⟩ = some (.slice jA jm jc) ∧ v.cell? ⟨we22.heap.size, 2, none⟩ = some (.int .i64 jE) ∧ v.cell? ⟨we22.heap.size, 3, none⟩ = some (.bool jg2) ∧ v.cell? ⟨we22.heap.size, 4, none⟩ = some (.slice jA2 jm2 jc2) ∧ v.cell? ⟨we22.heap.size, 5, none⟩ = some (.int .i64 jE2)) (with_reducible exact KEEP.out _ cur.out)
                      (first
                        | (go_at_call 20; (with_reducible refine (CO1.out _ cur.out).mono ?_); rintro e u1 ⟨ALA, mLA, cLA, zLA, rfl, hm1, hl1, hb1, hv1, hB1⟩; replace cur := Lib.hid (cur.out.trans (hB1.mono cur.out.size)); have LA : Hid (Dig u1 ALA mLA cLA zLA ∧ D.Bare zLA ∧ mLA ≤ 600 ∧ D.val zLA = o1.V) := ⟨hl1, hb1, hm1, hv1⟩; clear hl1 hb1 hm1 hv1 hB1)
                        | (go_at_call 20; (with_reducible refine (CO2.out _ cur.out).mono ?_); rintro e u1 ⟨ALB, mLB, cLB, zLB, rfl, hm1, hl1, hb1, hv1, hB1⟩; replace cur := Lib.hid (cur.out.trans (hB1.mono cur.out.size)); (first | (have la := LA.out; replace LA := Lib.hid (And.intro (la.1.below hB1) la.2); clear la) | skip); have LB : Hid (Dig u1 ALB mLB cLB zLB ∧ D.Bare zLB ∧ mLB ≤ 600 ∧ D.val zLB = o2.V) := ⟨hl1, hb1, hm1, hv1⟩; clear hl1 hb1 hm1 hv1 hB1)
                        | (go_at_call 23; (with_reducible refine (CE1.out _ _ _ _ _ _ _ _ _ (And.intro LA.out LB.out) cur.out).mono ?_); rintro e u1 ⟨rfl, hB1⟩; replace cur := Lib.hid (cur.out.trans (hB1.mono cur.out.size)); clear LA LB hB1)
                        | (go_at_call 23; (with_reducible refine (CE2.out _ cur.out).mono ?_); rintro e u1 ⟨rfl, hB1⟩; replace cur := Lib.hid (cur.out.trans (hB1.mono cur.out.size)); clear hB1))
                    all_goals (
                      have Hfin := Lib.hid (HS.out.trans (cur.out.mono HS.out.size))
                      clear HS cur KEEP CO1 CO2 CE1 CE2
                      go_wp2
                      go_ret
                      exact ⟨rfl, Hfin.out⟩)
end Go.Proofs.YtafgooiakmmfkaaDoor
