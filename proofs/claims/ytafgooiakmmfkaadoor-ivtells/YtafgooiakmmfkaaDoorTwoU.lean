/- Words for dyads and intervals that are laid into new blocks, one or two, in whatever order the blocks came. -/
import Derived.Test.YtafgooiakmmfkaaDoorK4
namespace Go.Proofs.YtafgooiakmmfkaaDoor
open Go.RowKit

/-- Digits of a value. -/
def Mq (w : World) (V : Nat) (A : Option Addr) (m c : Nat) (es : List Nat) : Prop := Lim w A m c es ∧ Bare es ∧ val es = V
theorem Mq.below {w w' : World} {V : Nat} {A : Option Addr} {m c : Nat} {es : List Nat} (h : Mq w V A m c es) (hb : Below w.heap.size w w') : Mq w' V A m c es := ⟨h.1.below hb, h.2⟩
theorem Mq.put {w : World} {V : Nat} {A : Option Addr} {m c : Nat} {es : List Nat} (h : Mq w V A m c es) {p t : Nat} {g0 : Bool} {A0 : Option Addr} {n0 c0 : Nat} {e0 : Int} (hb : Bd w p t g0 A0 n0 c0 e0) (g : Bool) (A' : Option Addr) (n' c' : Nat) (e : Int) : Mq (World.put w p g A' n' c' e) V A m c es := ⟨hb.lim h.1 _ _ _ _ _, h.2⟩
theorem below_2u (w : World) (o1 o2 : Obj) : Below w.heap.size w ((w.alloc o1).alloc o2) := ((Below.refl _ _).alloc (Nat.le_refl _) _).alloc (by simp) _

/-- New blocks, each with a number that is 0 yet; the newest first. -/
def HoldU (u0 : World) (bs : List Nat) (w : World) : Prop :=
  Below u0.heap.size u0 w ∧ (∀ p ∈ bs, Bd w p 36 false none 0 0 0 ∧ u0.heap.size ≤ p) ∧ bs.Pairwise (fun x y => y < x)
section
variable {u0 : World} {bs : List Nat} {w w' : World}
theorem HoldU.below (hh : HoldU u0 bs w) (hb : Below w.heap.size w w') : HoldU u0 bs w' :=
  ⟨hh.1.trans (hb.mono hh.1.size), fun p hp => ⟨(hh.2.1 p hp).1.below hb, (hh.2.1 p hp).2⟩, hh.2.2⟩
theorem HoldU.one (hh : HoldU u0 bs w) : HoldU u0 (w.heap.size :: bs) (w.alloc (.cells #[.bool false, .slice none 0 0, .int .i64 0] 36)) := by
  have h2 := hh.below (below1 w (.cells #[.bool false, .slice none 0 0, .int .i64 0] 36))
  refine ⟨h2.1, fun p hp => ?_, ?_⟩
  · rcases List.mem_cons.1 hp with rfl | hp
    · exact ⟨Bd.new w _ _ _ _ _ _, hh.1.size⟩
    · exact h2.2.1 p hp
  · exact List.pairwise_cons.2 ⟨fun p hp => (hh.2.1 p hp).1.lt, hh.2.2⟩
theorem HoldU.two (hh : HoldU u0 bs w) : HoldU u0 ((w.heap.size + 1) :: w.heap.size :: bs) ((w.alloc (.cells #[.bool false, .slice none 0 0, .int .i64 0] 36)).alloc (.cells #[.bool false, .slice none 0 0, .int .i64 0] 36)) := by
  have h2 := hh.one.one
  rw [World.size_alloc] at h2
  exact h2
theorem HoldU.start (u0 : World) : HoldU u0 [] u0 := ⟨Below.refl _ _, fun _ hp => absurd hp (List.not_mem_nil), List.Pairwise.nil⟩
theorem HoldU.old (hh : HoldU u0 bs w) : Below u0.heap.size u0 w := hh.1
theorem HoldU.first {X : Nat} (hh : HoldU u0 (X :: bs) w) : Bd w X 36 false none 0 0 0 := (hh.2.1 X (List.mem_cons.2 (Or.inl rfl))).1
theorem HoldU.second {X Y : Nat} (hh : HoldU u0 (Y :: X :: bs) w) : Bd w X 36 false none 0 0 0 ∧ X < Y :=
  ⟨(hh.2.1 X (List.mem_cons.2 (Or.inr (List.mem_cons.2 (Or.inl rfl))))).1, (List.pairwise_cons.1 hh.2.2).1 X (List.mem_cons.2 (Or.inl rfl))⟩
theorem HoldU.a1 (hh : HoldU u0 bs w) (o : Obj) : Below u0.heap.size u0 (w.alloc o) := hh.1.alloc hh.1.size o
theorem HoldU.a2 (hh : HoldU u0 bs w) (o1 o2 : Obj) : Below u0.heap.size u0 ((w.alloc o1).alloc o2) := (hh.1.alloc hh.1.size o1).alloc (hh.1.alloc hh.1.size o1).size o2
variable {X Y : Nat}
theorem HoldU.at1 (hh : HoldU u0 (X :: bs) w) (g : Bool) (A : Option Addr) (n c : Nat) (e : Int) : Below u0.heap.size u0 (World.put w X g A n c e) :=
  below_put hh.1 (hh.2.1 X (List.mem_cons.2 (Or.inl rfl))).2 _ _ _ _ _
theorem HoldU.at1a (hh : HoldU u0 (X :: bs) w) (g : Bool) (A : Option Addr) (n c : Nat) (e : Int) (o : Obj) : Below u0.heap.size u0 ((World.put w X g A n c e).alloc o) := (hh.at1 g A n c e).alloc (hh.at1 g A n c e).size o
theorem HoldU.at2 (hh : HoldU u0 (Y :: X :: bs) w) (g : Bool) (A : Option Addr) (n c : Nat) (e : Int) : Below u0.heap.size u0 (World.put w X g A n c e) :=
  below_put hh.1 (hh.2.1 X (List.mem_cons.2 (Or.inr (List.mem_cons.2 (Or.inl rfl))))).2 _ _ _ _ _
theorem HoldU.at12 (hh : HoldU u0 (Y :: X :: bs) w) (g : Bool) (A : Option Addr) (n c : Nat) (e : Int) (g' : Bool) (A' : Option Addr) (n' c' : Nat) (e' : Int) : Below u0.heap.size u0 (World.put (World.put w Y g A n c e) X g' A' n' c' e') :=
  below_put (hh.at1 g A n c e) (hh.2.1 X (List.mem_cons.2 (Or.inr (List.mem_cons.2 (Or.inl rfl))))).2 _ _ _ _ _
theorem HoldU.at21 (hh : HoldU u0 (Y :: X :: bs) w) (g : Bool) (A : Option Addr) (n c : Nat) (e : Int) (g' : Bool) (A' : Option Addr) (n' c' : Nat) (e' : Int) : Below u0.heap.size u0 (World.put (World.put w X g A n c e) Y g' A' n' c' e') :=
  below_put (hh.at2 g A n c e) (hh.2.1 Y (List.mem_cons.2 (Or.inl rfl))).2 _ _ _ _ _
end
/-- Two numbers in new blocks. -/
def RelU (u0 : World) (p : Nat) (g1 : Bool) (A1 : Option Addr) (m1 c1 : Nat) (E1 : Int) (V1 : Nat) (es1 : List Nat) (q : Nat) (g2 : Bool) (A2 : Option Addr) (m2 c2 : Nat) (E2 : Int) (V2 : Nat) (es2 : List Nat) (w : World) : Prop :=
  Below u0.heap.size u0 w ∧ Bd w p 36 g1 A1 m1 c1 E1 ∧ Mq w V1 A1 m1 c1 es1 ∧ Bd w q 36 g2 A2 m2 c2 E2 ∧ Mq w V2 A2 m2 c2 es2
section
variable {u0 : World} {g1 : Bool} {A1 : Option Addr} {m1 c1 : Nat} {E1 : Int} {V1 : Nat} {es1 : List Nat} {g2 : Bool} {A2 : Option Addr} {m2 c2 : Nat} {E2 : Int} {V2 : Nat} {es2 : List Nat} {w w' : World} {p q : Nat}
theorem RelU.swap (hh : RelU u0 p g1 A1 m1 c1 E1 V1 es1 q g2 A2 m2 c2 E2 V2 es2 w) : RelU u0 q g2 A2 m2 c2 E2 V2 es2 p g1 A1 m1 c1 E1 V1 es1 w :=
  ⟨hh.1, hh.2.2.2.1, hh.2.2.2.2, hh.2.1, hh.2.2.1⟩
theorem RelU.below (hh : RelU u0 p g1 A1 m1 c1 E1 V1 es1 q g2 A2 m2 c2 E2 V2 es2 w) (hb : Below w.heap.size w w') : RelU u0 p g1 A1 m1 c1 E1 V1 es1 q g2 A2 m2 c2 E2 V2 es2 w' :=
  ⟨hh.1.trans (hb.mono hh.1.size), hh.2.1.below hb, hh.2.2.1.below hb, hh.2.2.2.1.below hb, hh.2.2.2.2.below hb⟩
theorem RelU.six (hh : RelU u0 p g1 A1 m1 c1 E1 V1 es1 q g2 A2 m2 c2 E2 V2 es2 w) : Six w p g1 A1 m1 c1 E1 q g2 A2 m2 c2 E2 := hh.2.1.six hh.2.2.2.1
theorem RelU.mem1 (hh : RelU u0 p g1 A1 m1 c1 E1 V1 es1 q g2 A2 m2 c2 E2 V2 es2 w) : Mq w V1 A1 m1 c1 es1 := hh.2.2.1
theorem RelU.mem2 (hh : RelU u0 p g1 A1 m1 c1 E1 V1 es1 q g2 A2 m2 c2 E2 V2 es2 w) : Mq w V2 A2 m2 c2 es2 := hh.2.2.2.2
theorem RelU.old (hh : RelU u0 p g1 A1 m1 c1 E1 V1 es1 q g2 A2 m2 c2 E2 V2 es2 w) : Below u0.heap.size u0 w := hh.1
/-- Both blocks came last. -/
theorem RelU.new2 (hh : HoldU u0 [] w) (h1 : Mq w V1 A1 m1 c1 es1) (h2 : Mq w V2 A2 m2 c2 es2) :
    RelU u0 w.heap.size g1 A1 m1 c1 E1 V1 es1 (w.heap.size + 1) g2 A2 m2 c2 E2 V2 es2 ((w.alloc (.cells #[.bool g1, .slice A1 m1 c1, .int .i64 E1] 36)).alloc (.cells #[.bool g2, .slice A2 m2 c2, .int .i64 E2] 36)) := by
  have hb := below_2u w (.cells #[.bool g1, .slice A1 m1 c1, .int .i64 E1] 36) (.cells #[.bool g2, .slice A2 m2 c2, .int .i64 E2] 36)
  have b2 := Bd.new (w.alloc (.cells #[.bool g1, .slice A1 m1 c1, .int .i64 E1] 36)) 36 g2 A2 m2 c2 E2
  rw [World.size_alloc] at b2
  exact ⟨hh.1.trans (hb.mono hh.1.size), (Bd.new w _ _ _ _ _ _).alloc _, h1.below hb, b2, h2.below hb⟩
/-- One came ahead. -/
theorem RelU.new1 {X : Nat} (hh : HoldU u0 [X] w) (h1 : Mq w V1 A1 m1 c1 es1) (h2 : Mq w V2 A2 m2 c2 es2) :
    RelU u0 X g1 A1 m1 c1 E1 V1 es1 w.heap.size g2 A2 m2 c2 E2 V2 es2 ((World.put w X g1 A1 m1 c1 E1).alloc (.cells #[.bool g2, .slice A2 m2 c2, .int .i64 E2] 36)) := by
  obtain ⟨k1, k2⟩ := hh.2.1 X (List.mem_cons.2 (Or.inl rfl))
  have e1 := below_put hh.1 k2 g1 A1 m1 c1 E1
  have hb := below1 (World.put w X g1 A1 m1 c1 E1) (.cells #[.bool g2, .slice A2 m2 c2, .int .i64 E2] 36)
  have b2 := Bd.new (World.put w X g1 A1 m1 c1 E1) 36 g2 A2 m2 c2 E2
  rw [put_size] at b2
  exact ⟨e1.trans (hb.mono e1.size), (k1.put _ _ _ _ _).below hb, (h1.put k1 _ _ _ _ _).below hb, b2, (h2.put k1 _ _ _ _ _).below hb⟩
/-- Both came ahead. -/
theorem RelU.new0 {X Y : Nat} (hh : HoldU u0 [Y, X] w) (h1 : Mq w V1 A1 m1 c1 es1) (h2 : Mq w V2 A2 m2 c2 es2) :
    RelU u0 X g1 A1 m1 c1 E1 V1 es1 Y g2 A2 m2 c2 E2 V2 es2 (World.put (World.put w X g1 A1 m1 c1 E1) Y g2 A2 m2 c2 E2) ∧
    RelU u0 X g1 A1 m1 c1 E1 V1 es1 Y g2 A2 m2 c2 E2 V2 es2 (World.put (World.put w Y g2 A2 m2 c2 E2) X g1 A1 m1 c1 E1) := by
  obtain ⟨x1, x2⟩ := hh.2.1 X (List.mem_cons.2 (Or.inr (List.mem_cons.2 (Or.inl rfl))))
  obtain ⟨y1, y2⟩ := hh.2.1 Y (List.mem_cons.2 (Or.inl rfl))
  have hXY := (List.pairwise_cons.1 hh.2.2).1 X (List.mem_cons.2 (Or.inl rfl))
  constructor
  · have q1 := x1.put g1 A1 m1 c1 E1
    have q2 := y1.other (b' := X) (by omega) g1 A1 m1 c1 E1
    exact ⟨below_put (below_put hh.1 x2 _ _ _ _ _) y2 _ _ _ _ _, q1.other (by omega) _ _ _ _ _, (h1.put x1 _ _ _ _ _).put q2 _ _ _ _ _, q2.put _ _ _ _ _, (h2.put x1 _ _ _ _ _).put q2 _ _ _ _ _⟩
  · have q1 := y1.put g2 A2 m2 c2 E2
    have q2 := x1.other (b' := Y) (by omega) g2 A2 m2 c2 E2
    exact ⟨below_put (below_put hh.1 y2 _ _ _ _ _) x2 _ _ _ _ _, q2.put _ _ _ _ _, (h1.put y1 _ _ _ _ _).put q2 _ _ _ _ _, q1.other (by omega) _ _ _ _ _, (h2.put y1 _ _ _ _ _).put q2 _ _ _ _ _⟩
end

/-- One dyad in a new block. -/
def RelO (u0 : World) (p : Nat) (g : Bool) (A : Option Addr) (m c : Nat) (E : Int) (V : Nat) (es : List Nat) (w : World) : Prop :=
  Below u0.heap.size u0 w ∧ Bd w p 36 g A m c E ∧ Mq w V A m c es ∧ u0.heap.size ≤ p
section
variable {u0 : World} {g : Bool} {A : Option Addr} {m c : Nat} {E : Int} {V : Nat} {es : List Nat} {w : World}
theorem RelO.last (hh : HoldU u0 [] w) (h1 : Mq w V A m c es) : RelO u0 w.heap.size g A m c E V es (w.alloc (.cells #[.bool g, .slice A m c, .int .i64 E] 36)) :=
  ⟨hh.1.trans ((below1 w _).mono hh.1.size), Bd.new w _ _ _ _ _ _, h1.below (below1 w _), hh.1.size⟩
theorem RelO.ahead {X : Nat} (hh : HoldU u0 [X] w) (h1 : Mq w V A m c es) : RelO u0 X g A m c E V es (World.put w X g A m c E) :=
  ⟨hh.at1 _ _ _ _ _, hh.first.put _ _ _ _ _, h1.put hh.first _ _ _ _ _, (hh.2.1 X (List.mem_cons.2 (Or.inl rfl))).2⟩
end
/-- Three cells of an old block. -/
abbrev Lo3 (w : World) (p : Nat) (g : Bool) (A : Option Addr) (m c : Nat) (E : Int) : Prop := w.cell? ⟨p, 0, none⟩ = some (.bool g) ∧ w.cell? ⟨p, 1, none⟩ = some (.slice A m c) ∧ w.cell? ⟨p, 2, none⟩ = some (.int .i64 E)
abbrev Hi3 (w : World) (p : Nat) (g : Bool) (A : Option Addr) (m c : Nat) (E : Int) : Prop := w.cell? ⟨p, 3, none⟩ = some (.bool g) ∧ w.cell? ⟨p, 4, none⟩ = some (.slice A m c) ∧ w.cell? ⟨p, 5, none⟩ = some (.int .i64 E)
abbrev All6 (w : World) (p : Nat) (g : Bool) (A : Option Addr) (m c : Nat) (E : Int) (g' : Bool) (A' : Option Addr) (m' c' : Nat) (E' : Int) : Prop := w.cell? ⟨p, 0, none⟩ = some (.bool g) ∧ w.cell? ⟨p, 1, none⟩ = some (.slice A m c) ∧ w.cell? ⟨p, 2, none⟩ = some (.int .i64 E) ∧ w.cell? ⟨p, 3, none⟩ = some (.bool g') ∧ w.cell? ⟨p, 4, none⟩ = some (.slice A' m' c') ∧ w.cell? ⟨p, 5, none⟩ = some (.int .i64 E')
section
variable {w u : World} {b : Nat} {g1 : Bool} {A1 : Option Addr} {m1 c1 : Nat} {e1 : Int} {g2 : Bool} {A2 : Option Addr} {m2 c2 : Nat} {e2 : Int}
theorem Bd.lo3d {p t : Nat} {g : Bool} {A : Option Addr} {m c : Nat} {E : Int} (h : Bd w p t g A m c E) (hb : Below w.heap.size w u) : Lo3 u p g A m c E := ⟨(h.below hb).c0, (h.below hb).c1, (h.below hb).c2⟩
theorem Ib.lo3 (h : Ib w b g1 A1 m1 c1 e1 g2 A2 m2 c2 e2) (hb : Below w.heap.size w u) : Lo3 u b g1 A1 m1 c1 e1 := ⟨(h.below hb).x0, (h.below hb).x1, (h.below hb).x2⟩
theorem Ib.hi3 (h : Ib w b g1 A1 m1 c1 e1 g2 A2 m2 c2 e2) (hb : Below w.heap.size w u) : Hi3 u b g2 A2 m2 c2 e2 := ⟨(h.below hb).x3, (h.below hb).x4, (h.below hb).x5⟩
theorem Ib.all6 (h : Ib w b g1 A1 m1 c1 e1 g2 A2 m2 c2 e2) (hb : Below w.heap.size w u) : All6 u b g1 A1 m1 c1 e1 g2 A2 m2 c2 e2 := ⟨(h.below hb).x0, (h.below hb).x1, (h.below hb).x2, (h.below hb).x3, (h.below hb).x4, (h.below hb).x5⟩
end

/-- New blocks, each with an interval that is 0 yet; the newest first. -/
def HoldUI (u0 : World) (bs : List Nat) (w : World) : Prop :=
  Below u0.heap.size u0 w ∧ (∀ p ∈ bs, Ib w p false none 0 0 0 false none 0 0 0 ∧ u0.heap.size ≤ p) ∧ bs.Pairwise (fun x y => y < x)
theorem Ib.other6 {w : World} {b b' : Nat} {g1 : Bool} {A1 : Option Addr} {m1 c1 : Nat} {e1 : Int} {g2 : Bool} {A2 : Option Addr} {m2 c2 : Nat} {e2 : Int} (h : Ib w b g1 A1 m1 c1 e1 g2 A2 m2 c2 e2) (hb : b ≠ b') (g : Bool) (A : Option Addr) (n c : Nat) (e : Int) (g' : Bool) (A' : Option Addr) (n' c' : Nat) (e' : Int) : Ib (World.put6 w b' g A n c e g' A' n' c' e') b g1 A1 m1 c1 e1 g2 A2 m2 c2 e2 := by
  unfold Ib; rw [put6_heap _ _ _ _ _ _ _ _ _ _ _ _ _ hb]; exact h
section
variable {u0 : World} {bs : List Nat} {w w' : World}
theorem HoldUI.below (hh : HoldUI u0 bs w) (hb : Below w.heap.size w w') : HoldUI u0 bs w' :=
  ⟨hh.1.trans (hb.mono hh.1.size), fun p hp => ⟨(hh.2.1 p hp).1.below hb, (hh.2.1 p hp).2⟩, hh.2.2⟩
theorem HoldUI.one (hh : HoldUI u0 bs w) : HoldUI u0 (w.heap.size :: bs) (w.alloc (.cells #[.bool false, .slice none 0 0, .int .i64 0, .bool false, .slice none 0 0, .int .i64 0] 38)) := by
  have h2 := hh.below (below1 w (.cells #[.bool false, .slice none 0 0, .int .i64 0, .bool false, .slice none 0 0, .int .i64 0] 38))
  refine ⟨h2.1, fun p hp => ?_, ?_⟩
  · rcases List.mem_cons.1 hp with rfl | hp
    · exact ⟨Ib.new w _ _ _ _ _ _ _ _ _ _, hh.1.size⟩
    · exact h2.2.1 p hp
  · exact List.pairwise_cons.2 ⟨fun p hp => (hh.2.1 p hp).1.lt, hh.2.2⟩
theorem HoldUI.two (hh : HoldUI u0 bs w) : HoldUI u0 ((w.heap.size + 1) :: w.heap.size :: bs) ((w.alloc (.cells #[.bool false, .slice none 0 0, .int .i64 0, .bool false, .slice none 0 0, .int .i64 0] 38)).alloc (.cells #[.bool false, .slice none 0 0, .int .i64 0, .bool false, .slice none 0 0, .int .i64 0] 38)) := by
  have h2 := hh.one.one
  rw [World.size_alloc] at h2
  exact h2
theorem HoldUI.start (u0 : World) : HoldUI u0 [] u0 := ⟨Below.refl _ _, fun _ hp => absurd hp (List.not_mem_nil), List.Pairwise.nil⟩
theorem HoldUI.old (hh : HoldUI u0 bs w) : Below u0.heap.size u0 w := hh.1
theorem HoldUI.first {X : Nat} (hh : HoldUI u0 (X :: bs) w) : Ib w X false none 0 0 0 false none 0 0 0 := (hh.2.1 X (List.mem_cons.2 (Or.inl rfl))).1
theorem HoldUI.second {X Y : Nat} (hh : HoldUI u0 (Y :: X :: bs) w) : Ib w X false none 0 0 0 false none 0 0 0 ∧ X < Y :=
  ⟨(hh.2.1 X (List.mem_cons.2 (Or.inr (List.mem_cons.2 (Or.inl rfl))))).1, (List.pairwise_cons.1 hh.2.2).1 X (List.mem_cons.2 (Or.inl rfl))⟩
theorem HoldUI.a1 (hh : HoldUI u0 bs w) (o : Obj) : Below u0.heap.size u0 (w.alloc o) := hh.1.alloc hh.1.size o
theorem HoldUI.a2 (hh : HoldUI u0 bs w) (o1 o2 : Obj) : Below u0.heap.size u0 ((w.alloc o1).alloc o2) := (hh.1.alloc hh.1.size o1).alloc (hh.1.alloc hh.1.size o1).size o2
variable {X Y : Nat}
theorem HoldUI.at1 (hh : HoldUI u0 (X :: bs) w) (g : Bool) (A : Option Addr) (n c : Nat) (e : Int) (g' : Bool) (A' : Option Addr) (n' c' : Nat) (e' : Int) : Below u0.heap.size u0 (World.put6 w X g A n c e g' A' n' c' e') :=
  below_put6 hh.1 (hh.2.1 X (List.mem_cons.2 (Or.inl rfl))).2 _ _ _ _ _ _ _ _ _ _
theorem HoldUI.at1a (hh : HoldUI u0 (X :: bs) w) (g : Bool) (A : Option Addr) (n c : Nat) (e : Int) (g' : Bool) (A' : Option Addr) (n' c' : Nat) (e' : Int) (o : Obj) : Below u0.heap.size u0 ((World.put6 w X g A n c e g' A' n' c' e').alloc o) := (hh.at1 g A n c e g' A' n' c' e').alloc (hh.at1 g A n c e g' A' n' c' e').size o
theorem HoldUI.at2 (hh : HoldUI u0 (Y :: X :: bs) w) (g : Bool) (A : Option Addr) (n c : Nat) (e : Int) (g' : Bool) (A' : Option Addr) (n' c' : Nat) (e' : Int) : Below u0.heap.size u0 (World.put6 w X g A n c e g' A' n' c' e') :=
  below_put6 hh.1 (hh.2.1 X (List.mem_cons.2 (Or.inr (List.mem_cons.2 (Or.inl rfl))))).2 _ _ _ _ _ _ _ _ _ _
end
/-- One interval in a new block. -/
def RelI (u0 : World) (p : Nat) (g1 : Bool) (A1 : Option Addr) (m1 c1 : Nat) (e1 : Int) (zs : List Nat) (g2 : Bool) (A2 : Option Addr) (m2 c2 : Nat) (e2 : Int) (us : List Nat) (w : World) : Prop :=
  Below u0.heap.size u0 w ∧ Ib w p g1 A1 m1 c1 e1 g2 A2 m2 c2 e2 ∧ Lim w A1 m1 c1 zs ∧ Lim w A2 m2 c2 us ∧ u0.heap.size ≤ p
section
variable {u0 : World} {g1 : Bool} {A1 : Option Addr} {m1 c1 : Nat} {e1 : Int} {zs : List Nat} {g2 : Bool} {A2 : Option Addr} {m2 c2 : Nat} {e2 : Int} {us : List Nat} {w : World}
theorem RelI.last (hh : HoldUI u0 [] w) (h1 : Lim w A1 m1 c1 zs) (h2 : Lim w A2 m2 c2 us) : RelI u0 w.heap.size g1 A1 m1 c1 e1 zs g2 A2 m2 c2 e2 us (w.alloc (.cells #[.bool g1, .slice A1 m1 c1, .int .i64 e1, .bool g2, .slice A2 m2 c2, .int .i64 e2] 38)) :=
  ⟨hh.1.trans ((below1 w _).mono hh.1.size), Ib.new w _ _ _ _ _ _ _ _ _ _, h1.below (below1 w _), h2.below (below1 w _), hh.1.size⟩
theorem RelI.ahead {X : Nat} (hh : HoldUI u0 [X] w) (h1 : Lim w A1 m1 c1 zs) (h2 : Lim w A2 m2 c2 us) : RelI u0 X g1 A1 m1 c1 e1 zs g2 A2 m2 c2 e2 us (World.put6 w X g1 A1 m1 c1 e1 g2 A2 m2 c2 e2) :=
  ⟨hh.at1 _ _ _ _ _ _ _ _ _ _, hh.first.put _ _ _ _ _ _ _ _ _ _, hh.first.lim h1 _ _ _ _ _ _ _ _ _ _, hh.first.lim h2 _ _ _ _ _ _ _ _ _ _, (hh.2.1 X (List.mem_cons.2 (Or.inl rfl))).2⟩
end
/-- Two intervals in new blocks, their lists old. -/
def RelI2 (u0 : World) (p : Nat) (g1 : Bool) (A1 : Option Addr) (m1 c1 : Nat) (e1 : Int) (g2 : Bool) (A2 : Option Addr) (m2 c2 : Nat) (e2 : Int) (q : Nat) (g3 : Bool) (A3 : Option Addr) (m3 c3 : Nat) (e3 : Int) (g4 : Bool) (A4 : Option Addr) (m4 c4 : Nat) (e4 : Int) (w : World) : Prop :=
  Below u0.heap.size u0 w ∧ Ib w p g1 A1 m1 c1 e1 g2 A2 m2 c2 e2 ∧ Ib w q g3 A3 m3 c3 e3 g4 A4 m4 c4 e4
section
variable {u0 : World} {g1 : Bool} {A1 : Option Addr} {m1 c1 : Nat} {e1 : Int} {g2 : Bool} {A2 : Option Addr} {m2 c2 : Nat} {e2 : Int} {g3 : Bool} {A3 : Option Addr} {m3 c3 : Nat} {e3 : Int} {g4 : Bool} {A4 : Option Addr} {m4 c4 : Nat} {e4 : Int} {w : World} {p q : Nat}
theorem RelI2.swap (hh : RelI2 u0 p g1 A1 m1 c1 e1 g2 A2 m2 c2 e2 q g3 A3 m3 c3 e3 g4 A4 m4 c4 e4 w) : RelI2 u0 q g3 A3 m3 c3 e3 g4 A4 m4 c4 e4 p g1 A1 m1 c1 e1 g2 A2 m2 c2 e2 w := ⟨hh.1, hh.2.2, hh.2.1⟩
theorem RelI2.new2 (hh : HoldUI u0 [] w) : RelI2 u0 w.heap.size g1 A1 m1 c1 e1 g2 A2 m2 c2 e2 (w.heap.size + 1) g3 A3 m3 c3 e3 g4 A4 m4 c4 e4 ((w.alloc (.cells #[.bool g1, .slice A1 m1 c1, .int .i64 e1, .bool g2, .slice A2 m2 c2, .int .i64 e2] 38)).alloc (.cells #[.bool g3, .slice A3 m3 c3, .int .i64 e3, .bool g4, .slice A4 m4 c4, .int .i64 e4] 38)) := by
  have hb := below1 (w.alloc (.cells #[.bool g1, .slice A1 m1 c1, .int .i64 e1, .bool g2, .slice A2 m2 c2, .int .i64 e2] 38)) (.cells #[.bool g3, .slice A3 m3 c3, .int .i64 e3, .bool g4, .slice A4 m4 c4, .int .i64 e4] 38)
  have b2 := Ib.new (w.alloc (.cells #[.bool g1, .slice A1 m1 c1, .int .i64 e1, .bool g2, .slice A2 m2 c2, .int .i64 e2] 38)) g3 A3 m3 c3 e3 g4 A4 m4 c4 e4
  rw [World.size_alloc] at b2
  exact ⟨hh.a2 _ _, (Ib.new w _ _ _ _ _ _ _ _ _ _).below hb, b2⟩
theorem RelI2.new1 {X : Nat} (hh : HoldUI u0 [X] w) : RelI2 u0 X g1 A1 m1 c1 e1 g2 A2 m2 c2 e2 w.heap.size g3 A3 m3 c3 e3 g4 A4 m4 c4 e4 ((World.put6 w X g1 A1 m1 c1 e1 g2 A2 m2 c2 e2).alloc (.cells #[.bool g3, .slice A3 m3 c3, .int .i64 e3, .bool g4, .slice A4 m4 c4, .int .i64 e4] 38)) := by
  obtain ⟨k1, _⟩ := hh.2.1 X (List.mem_cons.2 (Or.inl rfl))
  have e1' := hh.at1 g1 A1 m1 c1 e1 g2 A2 m2 c2 e2
  have hb := below1 (World.put6 w X g1 A1 m1 c1 e1 g2 A2 m2 c2 e2) (.cells #[.bool g3, .slice A3 m3 c3, .int .i64 e3, .bool g4, .slice A4 m4 c4, .int .i64 e4] 38)
  have b2 := Ib.new (World.put6 w X g1 A1 m1 c1 e1 g2 A2 m2 c2 e2) g3 A3 m3 c3 e3 g4 A4 m4 c4 e4
  rw [put6_size] at b2
  exact ⟨e1'.trans (hb.mono e1'.size), (k1.put _ _ _ _ _ _ _ _ _ _).below hb, b2⟩
theorem RelI2.new0 {X Y : Nat} (hh : HoldUI u0 [Y, X] w) :
    RelI2 u0 X g1 A1 m1 c1 e1 g2 A2 m2 c2 e2 Y g3 A3 m3 c3 e3 g4 A4 m4 c4 e4 (World.put6 (World.put6 w X g1 A1 m1 c1 e1 g2 A2 m2 c2 e2) Y g3 A3 m3 c3 e3 g4 A4 m4 c4 e4) ∧
    RelI2 u0 X g1 A1 m1 c1 e1 g2 A2 m2 c2 e2 Y g3 A3 m3 c3 e3 g4 A4 m4 c4 e4 (World.put6 (World.put6 w Y g3 A3 m3 c3 e3 g4 A4 m4 c4 e4) X g1 A1 m1 c1 e1 g2 A2 m2 c2 e2) := by
  obtain ⟨x1, x2⟩ := hh.2.1 X (List.mem_cons.2 (Or.inr (List.mem_cons.2 (Or.inl rfl))))
  obtain ⟨y1, y2⟩ := hh.2.1 Y (List.mem_cons.2 (Or.inl rfl))
  have hXY := (List.pairwise_cons.1 hh.2.2).1 X (List.mem_cons.2 (Or.inl rfl))
  exact ⟨⟨below_put6 (below_put6 hh.1 x2 _ _ _ _ _ _ _ _ _ _) y2 _ _ _ _ _ _ _ _ _ _, (x1.put _ _ _ _ _ _ _ _ _ _).other6 (by omega) _ _ _ _ _ _ _ _ _ _, (y1.other6 (b' := X) (by omega) _ _ _ _ _ _ _ _ _ _).put _ _ _ _ _ _ _ _ _ _⟩,
    ⟨below_put6 (below_put6 hh.1 y2 _ _ _ _ _ _ _ _ _ _) x2 _ _ _ _ _ _ _ _ _ _, (x1.other6 (b' := Y) (by omega) _ _ _ _ _ _ _ _ _ _).put _ _ _ _ _ _ _ _ _ _, (y1.put _ _ _ _ _ _ _ _ _ _).other6 (by omega) _ _ _ _ _ _ _ _ _ _⟩⟩
end
end Go.Proofs.YtafgooiakmmfkaaDoor
