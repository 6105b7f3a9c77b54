/- The walk of planimeterlaw15.tells. -/
import Derived.Test.YtafgooiakmmfkaaDoorIvTo
import Derived.Test.YtafgooiakmmfkaaDoorIvMath
import Derived.Test.YtafgooiakmmfkaaDoorK2
import Derived.Test.YtafgooiakmmfkaaDoorK4
namespace Go.Proofs.YtafgooiakmmfkaaDoor
open Go.RowKit

/-- Same of two bare dyads of the same value. -/
theorem dsame_val (g : Bool) (A : Option Addr) (n c : Nat) (xs : List Nat) (e1 : Int) (B : Option Addr) (m d : Nat) (ys : List Nat) (w : World) (hA : Lim w A n c xs) (hB : Lim w B m d ys) (bx : Bare xs) (by_ : Bare ys) (h : val xs = val ys) (hn : n ≤ 4398046511104) :
    Calls Tryd.prog 22 #[.agg #[.bool g, .slice A n c, .int .i64 e1], .agg #[.bool g, .slice B m d, .int .i64 e1]] w fun e w' => e = .returned (.bool true) ∧ Below w.heap.size w w' := by
  obtain rfl := bare_eq hA.words hB.words bx by_ h
  obtain rfl : n = m := hA.len.symm.trans hB.len
  exact fsame_yes g A n c xs e1 B d w hA hB hn

/-- The interval that was told, both numbers in their boxes. -/
def HoldT5 (w : World) (g1 : Bool) (A1 : Option Addr) (n1 c1 : Nat) (xs : List Nat) (e1 : Int) (g2 : Bool) (A2 : Option Addr) (n2 c2 : Nat) (ys : List Nat) (e2 : Int) (g : Bool) (A : Option Addr) (n c : Nat) (ds : List Nat) (E : Int) (k : Bool) (B : Option Addr) (m d : Nat) (es : List Nat) (G : Int) (u : World) : Prop :=
  Ib u w.heap.size g1 A1 n1 c1 e1 g2 A2 n2 c2 e2 ∧ Bd u (w.heap.size + 1) 31 g A n c E ∧ Bd u (w.heap.size + 1 + 1) 31 k B m d G ∧ Lim u A1 n1 c1 xs ∧ Lim u A2 n2 c2 ys ∧ Dig u A n c ds ∧ Dig u B m d es ∧ Below w.heap.size w u
section
variable {w u u' : World} {g1 : Bool} {A1 : Option Addr} {n1 c1 : Nat} {xs : List Nat} {e1 : Int} {g2 : Bool} {A2 : Option Addr} {n2 c2 : Nat} {ys : List Nat} {e2 : Int} {g : Bool} {A : Option Addr} {n c : Nat} {ds : List Nat} {E : Int} {k : Bool} {B : Option Addr} {m d : Nat} {es : List Nat} {G : Int}
theorem HoldT5.below (h : HoldT5 w g1 A1 n1 c1 xs e1 g2 A2 n2 c2 ys e2 g A n c ds E k B m d es G u) (hb : Below u.heap.size u u') : HoldT5 w g1 A1 n1 c1 xs e1 g2 A2 n2 c2 ys e2 g A n c ds E k B m d es G u' :=
  ⟨h.1.below hb, h.2.1.below hb, h.2.2.1.below hb, h.2.2.2.1.below hb, h.2.2.2.2.1.below hb, h.2.2.2.2.2.1.below hb, h.2.2.2.2.2.2.1.below hb, h.2.2.2.2.2.2.2.trans (hb.mono h.2.2.2.2.2.2.2.size)⟩
theorem HoldT5.start (h1 : Lim w A1 n1 c1 xs) (h2 : Lim w A2 n2 c2 ys) (hA : Dig w A n c ds) (hB : Dig w B m d es) : HoldT5 w g1 A1 n1 c1 xs e1 g2 A2 n2 c2 ys e2 g A n c ds E k B m d es G
    (((w.alloc (.cells #[.bool g1, .slice A1 n1 c1, .int .i64 e1, .bool g2, .slice A2 n2 c2, .int .i64 e2] 38)).alloc (.cells #[.bool g, .slice A n c, .int .i64 E] 31)).alloc (.cells #[.bool k, .slice B m d, .int .i64 G] 31)) := by
  obtain ⟨u1, hu1⟩ : ∃ u1, w.alloc (.cells #[.bool g1, .slice A1 n1 c1, .int .i64 e1, .bool g2, .slice A2 n2 c2, .int .i64 e2] 38) = u1 := ⟨_, rfl⟩
  have a1 : Below w.heap.size w u1 := hu1 ▸ below1 _ _
  have s1 : u1.heap.size = w.heap.size + 1 := by rw [← hu1, World.size_alloc]
  have i1 : Ib u1 w.heap.size g1 A1 n1 c1 e1 g2 A2 n2 c2 e2 := hu1 ▸ Ib.new _ _ _ _ _ _ _ _ _ _ _
  rw [hu1]
  have a2 := below1 u1 (.cells #[.bool g, .slice A n c, .int .i64 E] 31)
  have b2 := Bd.new u1 31 g A n c E
  obtain ⟨u2, hu2⟩ : ∃ u2, u1.alloc (.cells #[.bool g, .slice A n c, .int .i64 E] 31) = u2 := ⟨_, rfl⟩
  have s2 : u2.heap.size = w.heap.size + 1 + 1 := by rw [← hu2, World.size_alloc, s1]
  rw [hu2] at a2 b2 ⊢
  have a3 := below1 u2 (.cells #[.bool k, .slice B m d, .int .i64 G] 31)
  have b3 := Bd.new u2 31 k B m d G
  rw [s1] at b2
  rw [s2] at b3
  have t1 := a1.trans (a2.mono a1.size)
  exact ⟨(i1.below a2).below a3, b2.below a3, b3, ((h1.below a1).below a2).below a3, ((h2.below a1).below a2).below a3, ((hA.below a1).below a2).below a3, ((hB.below a1).below a2).below a3, t1.trans (a3.mono t1.size)⟩
end

set_option maxHeartbeats 4000000 in
set_option maxRecDepth 20000 in
/-- An interval that was told is worth two numbers. -/
theorem tells_l (g1 : Bool) (A1 : Option Addr) (n1 c1 : Nat) (xs : List Nat) (e1 : Int) (g2 : Bool) (A2 : Option Addr) (n2 c2 : Nat) (ys : List Nat) (e2 : Int) (g : Bool) (A : Option Addr) (n c : Nat) (ds : List Nat) (E : Int) (k : Bool) (B : Option Addr) (m d : Nat) (es : List Nat) (G : Int) (w : World)
    (h1 : Lim w A1 n1 c1 xs) (h2 : Lim w A2 n2 c2 ys) (b1 : Bare xs) (b2 : Bare ys) (hA : Dig w A n c ds) (hB : Dig w B m d es) (ba : D.Bare ds) (bb : D.Bare es) (hn1 : n1 ≤ 100000) (hn2 : n2 ≤ 100000) (hn : n ≤ 640) (hm : m ≤ 640)
    (he1 : -1073741824 ≤ e1) (he2 : e1 ≤ 1073741824) (hf1 : -1073741824 ≤ e2) (hf2 : e2 ≤ 1073741824) (q1 : nO g (D.val ds) E = ⟨g1, val xs, e1⟩) (q2 : nO k (D.val es) G = ⟨g2, val ys, e2⟩) :
    Calls Tryd.prog 23 #[.agg #[.bool g1, .slice A1 n1 c1, .int .i64 e1, .bool g2, .slice A2 n2 c2, .int .i64 e2], .agg #[.bool g, .slice A n c, .int .i64 E], .agg #[.bool k, .slice B m d, .int .i64 G]] w fun e w' => e = .returned (.bool true) ∧ Below w.heap.size w w' := by
  have k0 := HoldT5.start (g1 := g1) (e1 := e1) (g2 := g2) (e2 := e2) (g := g) (E := E) (k := k) (G := G) h1 h2 hA hB
  have K0 := Lib.hid k0
  have T1 := Lib.hid (rto_big g (D.val ds) E g1 (val xs) e1 A n c ds _ k0.2.2.2.2.2.1 ba rfl hn q1 he1 he2)
  have T2 : Hid (∀ u, Dig u B m d es → Calls Tryd.prog 19 #[.agg #[.bool k, .slice B m d, .int .i64 G]] u (TTold u ⟨g2, val ys, e2⟩ 201)) := fun u hu => rto_big k (D.val es) G g2 (val ys) e2 B m d es u hu bb rfl hm q2 hf1 hf2
  have HBr : Hid (Bare xs ∧ Bare ys) := ⟨b1, b2⟩
  have x0 := k0.2.1.c0
  have x1 := k0.2.1.c1
  have x2 := k0.2.1.c2
  clear h1 h2 hA hB ba bb k0 q1 q2 b1 b2
  go_enter Tryd.func23, Tryd.ntmps23
  go_wp2_with fail
  refine T1.out.mono ?_
  rintro e w1 ⟨A3, n3, c3, zs, rfl, hn3, hl3, hb3, hv3, hB3⟩
  dsimp only at hv3
  clear x0 x1 x2 T1
  have ba := below1 w1 (.cells #[.bool g1, .slice A3 n3 c3, .int .i64 e1] 24)
  have HD3 := Lib.hid (Bd.new w1 24 g1 A3 n3 c3 e1)
  have HL3 : Hid (Lim (w1.alloc (.cells #[.bool g1, .slice A3 n3 c3, .int .i64 e1] 24)) A3 n3 c3 zs ∧ Bare zs ∧ val zs = val xs) := ⟨hl3.below ba, hb3, hv3⟩
  replace K0 := Lib.hid ((K0.out.below hB3).below ba)
  have x0 := K0.out.2.2.1.c0
  have x1 := K0.out.2.2.1.c1
  have x2 := K0.out.2.2.1.c2
  have H2 := Lib.hid (T2.out _ K0.out.2.2.2.2.2.2.1)
  clear hl3 hb3 hv3 hB3 ba T2
  go_wp2_with fail
  refine H2.out.mono ?_
  rintro e w2 ⟨A4, n4, c4, us, rfl, hn4, hl4, hb4, hv4, hB4⟩
  dsimp only at hv4
  clear x0 x1 x2 H2
  have ba := below1 w2 (.cells #[.bool g2, .slice A4 n4 c4, .int .i64 e2] 24)
  have HD4 := Lib.hid (Bd.new w2 24 g2 A4 n4 c4 e2)
  have HL4 : Hid (Lim (w2.alloc (.cells #[.bool g2, .slice A4 n4 c4, .int .i64 e2] 24)) A4 n4 c4 us ∧ Bare us ∧ val us = val ys) := ⟨hl4.below ba, hb4, hv4⟩
  replace K0 := Lib.hid ((K0.out.below hB4).below ba)
  replace HD3 := Lib.hid ((HD3.out.below hB4).below ba)
  replace HL3 : Hid (Lim (w2.alloc (.cells #[.bool g2, .slice A4 n4 c4, .int .i64 e2] 24)) A3 n3 c3 zs ∧ Bare zs ∧ val zs = val xs) := ⟨(HL3.out.1.below hB4).below ba, HL3.out.2⟩
  have y0 := K0.out.1.x0
  have y1 := K0.out.1.x1
  have y2 := K0.out.1.x2
  have x0 := HD3.out.c0
  have x1 := HD3.out.c1
  have x2 := HD3.out.c2
  have H3 := Lib.hid (dsame_val g1 A1 n1 c1 xs e1 A3 n3 c3 zs _ K0.out.2.2.2.1 HL3.out.1 HBr.out.1 HL3.out.2.1 HL3.out.2.2.symm (by omega))
  clear hl4 hb4 hv4 hB4 ba HL3 HD3
  go_wp2_with fail
  refine H3.out.mono ?_
  rintro e w3 ⟨rfl, hB5⟩
  clear x0 x1 x2 y0 y1 y2 H3
  replace K0 := Lib.hid (K0.out.below hB5)
  replace HD4 := Lib.hid (HD4.out.below hB5)
  have y0 := K0.out.1.x3
  have y1 := K0.out.1.x4
  have y2 := K0.out.1.x5
  have x0 := HD4.out.c0
  have x1 := HD4.out.c1
  have x2 := HD4.out.c2
  have H4 := Lib.hid (dsame_val g2 A2 n2 c2 ys e2 A4 n4 c4 us _ K0.out.2.2.2.2.1 (HL4.out.1.below hB5) HBr.out.2 HL4.out.2.1 HL4.out.2.2.symm (by omega))
  clear hB5 HL4 HD4
  go_wp2_with fail
  refine H4.out.mono ?_
  rintro e w4 ⟨rfl, hB6⟩
  have Hfin := Lib.hid (K0.out.below hB6).2.2.2.2.2.2.2
  clear x0 x1 x2 y0 y1 y2 H4 K0 hB6 HBr
  go_wp2
  go_ret
  exact ⟨rfl, Hfin.out⟩
end Go.Proofs.YtafgooiakmmfkaaDoor
