/- Words for two numbers of the document that are laid into new blocks, in whatever order the blocks came; two dyads of a law in their boxes. -/
import Derived.Test.YteflihpnhgicfaaDoorRtLaw
namespace Go.Proofs.YteflihpnhgicfaaDoor
open Go.RowKit

/-- Digits of a value. -/
def Mg (w : World) (V : Nat) (A : Option Addr) (m c : Nat) (es : List Nat) : Prop := Dig w A m c es ∧ D.Bare es ∧ D.val es = V
theorem Mg.below {w w' : World} {V : Nat} {A : Option Addr} {m c : Nat} {es : List Nat} (h : Mg w V A m c es) (hb : Below w.heap.size w w') : Mg w' V A m c es := ⟨h.1.below hb, h.2⟩
theorem Mg.put {w : World} {V : Nat} {A : Option Addr} {m c : Nat} {es : List Nat} (h : Mg w V A m c es) {p t : Nat} {g0 : Bool} {A0 : Option Addr} {n0 c0 : Nat} {e0 : Int} (hb : Bd w p t g0 A0 n0 c0 e0) (g : Bool) (A' : Option Addr) (n' c' : Nat) (e : Int) : Mg (World.put w p g A' n' c' e) V A m c es := ⟨hb.dig h.1 _ _ _ _ _, h.2⟩
theorem below_2 (w : World) (o1 o2 : Obj) : Below w.heap.size w ((w.alloc o1).alloc o2) := ((Below.refl _ _).alloc (Nat.le_refl _) _).alloc (by simp) _

/-- New blocks, each with a number that is 0 yet; the newest first. -/
def HoldV (u0 : World) (bs : List Nat) (w : World) : Prop :=
  Below u0.heap.size u0 w ∧ (∀ p ∈ bs, Bd w p 28 false none 0 0 0 ∧ u0.heap.size ≤ p) ∧ bs.Pairwise (fun x y => y < x)
section
variable {u0 : World} {bs : List Nat} {w w' : World}
theorem HoldV.below (hh : HoldV u0 bs w) (hb : Below w.heap.size w w') : HoldV u0 bs w' :=
  ⟨hh.1.trans (hb.mono hh.1.size), fun p hp => ⟨(hh.2.1 p hp).1.below hb, (hh.2.1 p hp).2⟩, hh.2.2⟩
theorem HoldV.one (hh : HoldV u0 bs w) : HoldV u0 (w.heap.size :: bs) (w.alloc (.cells #[.bool false, .slice none 0 0, .int .i64 0] 28)) := by
  have h2 := hh.below (below1 w (.cells #[.bool false, .slice none 0 0, .int .i64 0] 28))
  refine ⟨h2.1, fun p hp => ?_, ?_⟩
  · rcases List.mem_cons.1 hp with rfl | hp
    · exact ⟨Bd.new w _ _ _ _ _ _, hh.1.size⟩
    · exact h2.2.1 p hp
  · exact List.pairwise_cons.2 ⟨fun p hp => (hh.2.1 p hp).1.lt, hh.2.2⟩
theorem HoldV.two (hh : HoldV u0 bs w) : HoldV u0 ((w.heap.size + 1) :: w.heap.size :: bs) ((w.alloc (.cells #[.bool false, .slice none 0 0, .int .i64 0] 28)).alloc (.cells #[.bool false, .slice none 0 0, .int .i64 0] 28)) := by
  have h2 := hh.one.one
  rw [World.size_alloc] at h2
  exact h2
theorem HoldV.start (u0 : World) : HoldV u0 [] u0 := ⟨Below.refl _ _, fun _ hp => absurd hp (List.not_mem_nil), List.Pairwise.nil⟩
theorem HoldV.old (hh : HoldV u0 bs w) : Below u0.heap.size u0 w := hh.1
theorem HoldV.first {X : Nat} (hh : HoldV u0 (X :: bs) w) : Bd w X 28 false none 0 0 0 := (hh.2.1 X (List.mem_cons.2 (Or.inl rfl))).1
theorem HoldV.second {X Y : Nat} (hh : HoldV u0 (Y :: X :: bs) w) : Bd w X 28 false none 0 0 0 ∧ X < Y :=
  ⟨(hh.2.1 X (List.mem_cons.2 (Or.inr (List.mem_cons.2 (Or.inl rfl))))).1, (List.pairwise_cons.1 hh.2.2).1 X (List.mem_cons.2 (Or.inl rfl))⟩
theorem HoldV.a1 (hh : HoldV u0 bs w) (o : Obj) : Below u0.heap.size u0 (w.alloc o) := hh.1.alloc hh.1.size o
theorem HoldV.a2 (hh : HoldV u0 bs w) (o1 o2 : Obj) : Below u0.heap.size u0 ((w.alloc o1).alloc o2) := (hh.1.alloc hh.1.size o1).alloc (hh.1.alloc hh.1.size o1).size o2
variable {X Y : Nat}
theorem HoldV.at1 (hh : HoldV u0 (X :: bs) w) (g : Bool) (A : Option Addr) (n c : Nat) (e : Int) : Below u0.heap.size u0 (World.put w X g A n c e) :=
  below_put hh.1 (hh.2.1 X (List.mem_cons.2 (Or.inl rfl))).2 _ _ _ _ _
theorem HoldV.at1a (hh : HoldV u0 (X :: bs) w) (g : Bool) (A : Option Addr) (n c : Nat) (e : Int) (o : Obj) : Below u0.heap.size u0 ((World.put w X g A n c e).alloc o) := (hh.at1 g A n c e).alloc (hh.at1 g A n c e).size o
theorem HoldV.at2 (hh : HoldV u0 (Y :: X :: bs) w) (g : Bool) (A : Option Addr) (n c : Nat) (e : Int) : Below u0.heap.size u0 (World.put w X g A n c e) :=
  below_put hh.1 (hh.2.1 X (List.mem_cons.2 (Or.inr (List.mem_cons.2 (Or.inl rfl))))).2 _ _ _ _ _
theorem HoldV.at12 (hh : HoldV u0 (Y :: X :: bs) w) (g : Bool) (A : Option Addr) (n c : Nat) (e : Int) (g' : Bool) (A' : Option Addr) (n' c' : Nat) (e' : Int) : Below u0.heap.size u0 (World.put (World.put w Y g A n c e) X g' A' n' c' e') :=
  below_put (hh.at1 g A n c e) (hh.2.1 X (List.mem_cons.2 (Or.inr (List.mem_cons.2 (Or.inl rfl))))).2 _ _ _ _ _
theorem HoldV.at21 (hh : HoldV u0 (Y :: X :: bs) w) (g : Bool) (A : Option Addr) (n c : Nat) (e : Int) (g' : Bool) (A' : Option Addr) (n' c' : Nat) (e' : Int) : Below u0.heap.size u0 (World.put (World.put w X g A n c e) Y g' A' n' c' e') :=
  below_put (hh.at2 g A n c e) (hh.2.1 Y (List.mem_cons.2 (Or.inl rfl))).2 _ _ _ _ _
end
/-- Two numbers in new blocks. -/
def RelV (u0 : World) (p : Nat) (g1 : Bool) (A1 : Option Addr) (m1 c1 : Nat) (E1 : Int) (V1 : Nat) (es1 : List Nat) (q : Nat) (g2 : Bool) (A2 : Option Addr) (m2 c2 : Nat) (E2 : Int) (V2 : Nat) (es2 : List Nat) (w : World) : Prop :=
  Below u0.heap.size u0 w ∧ Bd w p 28 g1 A1 m1 c1 E1 ∧ Mg w V1 A1 m1 c1 es1 ∧ Bd w q 28 g2 A2 m2 c2 E2 ∧ Mg w V2 A2 m2 c2 es2
section
variable {u0 : World} {g1 : Bool} {A1 : Option Addr} {m1 c1 : Nat} {E1 : Int} {V1 : Nat} {es1 : List Nat} {g2 : Bool} {A2 : Option Addr} {m2 c2 : Nat} {E2 : Int} {V2 : Nat} {es2 : List Nat} {w w' : World} {p q : Nat}
theorem RelV.swap (hh : RelV u0 p g1 A1 m1 c1 E1 V1 es1 q g2 A2 m2 c2 E2 V2 es2 w) : RelV u0 q g2 A2 m2 c2 E2 V2 es2 p g1 A1 m1 c1 E1 V1 es1 w :=
  ⟨hh.1, hh.2.2.2.1, hh.2.2.2.2, hh.2.1, hh.2.2.1⟩
theorem RelV.below (hh : RelV u0 p g1 A1 m1 c1 E1 V1 es1 q g2 A2 m2 c2 E2 V2 es2 w) (hb : Below w.heap.size w w') : RelV u0 p g1 A1 m1 c1 E1 V1 es1 q g2 A2 m2 c2 E2 V2 es2 w' :=
  ⟨hh.1.trans (hb.mono hh.1.size), hh.2.1.below hb, hh.2.2.1.below hb, hh.2.2.2.1.below hb, hh.2.2.2.2.below hb⟩
theorem RelV.six (hh : RelV u0 p g1 A1 m1 c1 E1 V1 es1 q g2 A2 m2 c2 E2 V2 es2 w) : Six w p g1 A1 m1 c1 E1 q g2 A2 m2 c2 E2 := hh.2.1.six hh.2.2.2.1
theorem RelV.mem1 (hh : RelV u0 p g1 A1 m1 c1 E1 V1 es1 q g2 A2 m2 c2 E2 V2 es2 w) : Mg w V1 A1 m1 c1 es1 := hh.2.2.1
theorem RelV.mem2 (hh : RelV u0 p g1 A1 m1 c1 E1 V1 es1 q g2 A2 m2 c2 E2 V2 es2 w) : Mg w V2 A2 m2 c2 es2 := hh.2.2.2.2
theorem RelV.old (hh : RelV u0 p g1 A1 m1 c1 E1 V1 es1 q g2 A2 m2 c2 E2 V2 es2 w) : Below u0.heap.size u0 w := hh.1
/-- Both blocks came last. -/
theorem RelV.new2 (hh : HoldV u0 [] w) (h1 : Mg w V1 A1 m1 c1 es1) (h2 : Mg w V2 A2 m2 c2 es2) :
    RelV u0 w.heap.size g1 A1 m1 c1 E1 V1 es1 (w.heap.size + 1) g2 A2 m2 c2 E2 V2 es2 ((w.alloc (.cells #[.bool g1, .slice A1 m1 c1, .int .i64 E1] 28)).alloc (.cells #[.bool g2, .slice A2 m2 c2, .int .i64 E2] 28)) := by
  have hb := below_2 w (.cells #[.bool g1, .slice A1 m1 c1, .int .i64 E1] 28) (.cells #[.bool g2, .slice A2 m2 c2, .int .i64 E2] 28)
  have b2 := Bd.new (w.alloc (.cells #[.bool g1, .slice A1 m1 c1, .int .i64 E1] 28)) 28 g2 A2 m2 c2 E2
  rw [World.size_alloc] at b2
  exact ⟨hh.1.trans (hb.mono hh.1.size), (Bd.new w _ _ _ _ _ _).alloc _, h1.below hb, b2, h2.below hb⟩
/-- One came ahead. -/
theorem RelV.new1 {X : Nat} (hh : HoldV u0 [X] w) (h1 : Mg w V1 A1 m1 c1 es1) (h2 : Mg w V2 A2 m2 c2 es2) :
    RelV u0 X g1 A1 m1 c1 E1 V1 es1 w.heap.size g2 A2 m2 c2 E2 V2 es2 ((World.put w X g1 A1 m1 c1 E1).alloc (.cells #[.bool g2, .slice A2 m2 c2, .int .i64 E2] 28)) := by
  obtain ⟨k1, k2⟩ := hh.2.1 X (List.mem_cons.2 (Or.inl rfl))
  have e1 := below_put hh.1 k2 g1 A1 m1 c1 E1
  have hb := below1 (World.put w X g1 A1 m1 c1 E1) (.cells #[.bool g2, .slice A2 m2 c2, .int .i64 E2] 28)
  have b2 := Bd.new (World.put w X g1 A1 m1 c1 E1) 28 g2 A2 m2 c2 E2
  rw [put_size] at b2
  exact ⟨e1.trans (hb.mono e1.size), (k1.put _ _ _ _ _).below hb, (h1.put k1 _ _ _ _ _).below hb, b2, (h2.put k1 _ _ _ _ _).below hb⟩
/-- Both came ahead. -/
theorem RelV.new0 {X Y : Nat} (hh : HoldV u0 [Y, X] w) (h1 : Mg w V1 A1 m1 c1 es1) (h2 : Mg w V2 A2 m2 c2 es2) :
    RelV u0 X g1 A1 m1 c1 E1 V1 es1 Y g2 A2 m2 c2 E2 V2 es2 (World.put (World.put w X g1 A1 m1 c1 E1) Y g2 A2 m2 c2 E2) ∧
    RelV u0 X g1 A1 m1 c1 E1 V1 es1 Y g2 A2 m2 c2 E2 V2 es2 (World.put (World.put w Y g2 A2 m2 c2 E2) X g1 A1 m1 c1 E1) := by
  obtain ⟨x1, x2⟩ := hh.2.1 X (List.mem_cons.2 (Or.inr (List.mem_cons.2 (Or.inl rfl))))
  obtain ⟨y1, y2⟩ := hh.2.1 Y (List.mem_cons.2 (Or.inl rfl))
  have hXY := (List.pairwise_cons.1 hh.2.2).1 X (List.mem_cons.2 (Or.inl rfl))
  constructor
  · have q1 := x1.put g1 A1 m1 c1 E1
    have q2 := y1.other (b' := X) (by omega) g1 A1 m1 c1 E1
    exact ⟨below_put (below_put hh.1 x2 _ _ _ _ _) y2 _ _ _ _ _, q1.other (by omega) _ _ _ _ _, (h1.put x1 _ _ _ _ _).put q2 _ _ _ _ _, q2.put _ _ _ _ _, (h2.put x1 _ _ _ _ _).put q2 _ _ _ _ _⟩
  · have q1 := y1.put g2 A2 m2 c2 E2
    have q2 := x1.other (b' := Y) (by omega) g2 A2 m2 c2 E2
    exact ⟨below_put (below_put hh.1 y2 _ _ _ _ _) x2 _ _ _ _ _, q2.put _ _ _ _ _, (h1.put y1 _ _ _ _ _).put q2 _ _ _ _ _, q1.other (by omega) _ _ _ _ _, (h2.put y1 _ _ _ _ _).put q2 _ _ _ _ _⟩
end

/-- Two dyads of a law in their boxes. -/
def HeldX (w0 : World) (b1 : Nat) (g : Bool) (A : Option Addr) (n c : Nat) (xs : List Nat) (e1 : Int) (b2 : Nat) (k : Bool) (B : Option Addr) (m d : Nat) (ys : List Nat) (e2 : Int) (w : World) : Prop :=
  Bd w b1 24 g A n c e1 ∧ Bd w b2 24 k B m d e2 ∧ Lim w A n c xs ∧ Lim w B m d ys ∧ Tab w ∧ Below w0.heap.size w0 w
section
variable {w0 : World} {b1 : Nat} {g : Bool} {A : Option Addr} {n c : Nat} {xs : List Nat} {e1 : Int} {b2 : Nat} {k : Bool} {B : Option Addr} {m d : Nat} {ys : List Nat} {e2 : Int} {w w' : World}
theorem HeldX.below (h : HeldX w0 b1 g A n c xs e1 b2 k B m d ys e2 w) (hb : Below w.heap.size w w') : HeldX w0 b1 g A n c xs e1 b2 k B m d ys e2 w' := by
  obtain ⟨h1, h2, h3, h4, h5, h6⟩ := h
  exact ⟨h1.below hb, h2.below hb, h3.below hb, h4.below hb, h5.below hb, h6.trans (hb.mono h6.size)⟩
theorem HeldX.six (h : HeldX w0 b1 g A n c xs e1 b2 k B m d ys e2 w) : Six w b1 g A n c e1 b2 k B m d e2 := h.1.six h.2.1
theorem HeldX.lim1 (h : HeldX w0 b1 g A n c xs e1 b2 k B m d ys e2 w) : Lim w A n c xs := h.2.2.1
theorem HeldX.lim2 (h : HeldX w0 b1 g A n c xs e1 b2 k B m d ys e2 w) : Lim w B m d ys := h.2.2.2.1
theorem HeldX.tab_ (h : HeldX w0 b1 g A n c xs e1 b2 k B m d ys e2 w) : Tab w := h.2.2.2.2.1
theorem HeldX.old (h : HeldX w0 b1 g A n c xs e1 b2 k B m d ys e2 w) : Below w0.heap.size w0 w := h.2.2.2.2.2
theorem HeldX.start (w : World) (g : Bool) (A : Option Addr) (n c : Nat) (xs : List Nat) (e1 : Int) (k : Bool) (B : Option Addr) (m d : Nat) (ys : List Nat) (e2 : Int) (hA : Lim w A n c xs) (hB : Lim w B m d ys) (hT : Tab w) :
    HeldX w w.heap.size g A n c xs e1 (w.heap.size + 1) k B m d ys e2 ((w.alloc (.cells #[.bool g, .slice A n c, .int .i64 e1] 24)).alloc (.cells #[.bool k, .slice B m d, .int .i64 e2] 24)) := by
  have a3 := below_2 w (.cells #[.bool g, .slice A n c, .int .i64 e1] 24) (.cells #[.bool k, .slice B m d, .int .i64 e2] 24)
  have b2 := Bd.new (w.alloc (.cells #[.bool g, .slice A n c, .int .i64 e1] 24)) 24 k B m d e2
  rw [World.size_alloc] at b2
  exact ⟨(Bd.new w _ _ _ _ _ _).alloc _, b2, hA.below a3, hB.below a3, hT.below a3, a3⟩
end
end Go.Proofs.YteflihpnhgicfaaDoor
