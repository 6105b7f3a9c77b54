/- Numbers of the document laid into new blocks; what the law IvTells asks of the program's calls. -/
import Derived.Test.YtafgooiakmmfkaaDoorIvWorth
namespace Go.Proofs.YtafgooiakmmfkaaDoor
open Go.RowKit

/-- A number's digits: bare, few, of a value. -/
def Dn (w : World) (V : Nat) (A : Option Addr) (m c : Nat) (ds : List Nat) : Prop := Dig w A m c ds ∧ D.Bare ds ∧ m ≤ 40 ∧ D.val ds = V
theorem Dn.below {w w' : World} {V : Nat} {A : Option Addr} {m c : Nat} {ds : List Nat} (h : Dn w V A m c ds) (hb : Below w.heap.size w w') : Dn w' V A m c ds := ⟨h.1.below hb, h.2⟩
section
variable {w : World} {b t : Nat} {g1 : Bool} {A1 : Option Addr} {m1 c1 : Nat} {e1 : Int} {g2 : Bool} {A2 : Option Addr} {m2 c2 : Nat} {e2 : Int}
theorem Sb.put (h : Sb w b t g1 A1 m1 c1 e1 g2 A2 m2 c2 e2) (g : Bool) (A : Option Addr) (n c : Nat) (e : Int) (g' : Bool) (A' : Option Addr) (n' c' : Nat) (e' : Int) : Sb (World.put6 w b g A n c e g' A' n' c' e') b t g A n c e g' A' n' c' e' := (h.putL g A n c e).putU g' A' n' c' e'
theorem Sb.dig (h : Sb w b t g1 A1 m1 c1 e1 g2 A2 m2 c2 e2) {A0 : Option Addr} {n0 c0 : Nat} {ds : List Nat} (hA : Dig w A0 n0 c0 ds) (g : Bool) (A : Option Addr) (n c : Nat) (e : Int) (g' : Bool) (A' : Option Addr) (n' c' : Nat) (e' : Int) : Dig (World.put6 w b g A n c e g' A' n' c' e') A0 n0 c0 ds := (h.putL g A n c e).digU (h.digL hA g A n c e) g' A' n' c' e'
end
/-- New blocks, each with two numbers that are 0 yet. -/
def HoldUN (u0 : World) (bs : List Nat) (w : World) : Prop :=
  Below u0.heap.size u0 w ∧ (∀ p ∈ bs, Sb w p 34 false none 0 0 0 false none 0 0 0 ∧ u0.heap.size ≤ p)
section
variable {u0 : World} {bs : List Nat} {w w' : World}
theorem HoldUN.below (hh : HoldUN u0 bs w) (hb : Below w.heap.size w w') : HoldUN u0 bs w' :=
  ⟨hh.1.trans (hb.mono hh.1.size), fun p hp => ⟨(hh.2 p hp).1.below hb, (hh.2 p hp).2⟩⟩
theorem HoldUN.one (hh : HoldUN u0 bs w) : HoldUN u0 (w.heap.size :: bs) (w.alloc (.cells #[.bool false, .slice none 0 0, .int .i64 0, .bool false, .slice none 0 0, .int .i64 0] 34)) := by
  have h2 := hh.below (below1 w (.cells #[.bool false, .slice none 0 0, .int .i64 0, .bool false, .slice none 0 0, .int .i64 0] 34))
  refine ⟨h2.1, fun p hp => ?_⟩
  rcases List.mem_cons.1 hp with rfl | hp
  · exact ⟨Sb.new w _ _ _ _ _ _ _ _ _ _ _, hh.1.size⟩
  · exact h2.2 p hp
theorem HoldUN.start (u0 : World) : HoldUN u0 [] u0 := ⟨Below.refl _ _, fun _ hp => absurd hp (List.not_mem_nil)⟩
theorem HoldUN.old (hh : HoldUN u0 bs w) : Below u0.heap.size u0 w := hh.1
theorem HoldUN.first {X : Nat} (hh : HoldUN u0 (X :: bs) w) : Sb w X 34 false none 0 0 0 false none 0 0 0 := (hh.2 X (List.mem_cons.2 (Or.inl rfl))).1
theorem HoldUN.a1 (hh : HoldUN u0 bs w) (o : Obj) : Below u0.heap.size u0 (w.alloc o) := hh.1.alloc hh.1.size o
variable {X : Nat}
theorem HoldUN.at1 (hh : HoldUN u0 (X :: bs) w) (g : Bool) (A : Option Addr) (n c : Nat) (e : Int) (g' : Bool) (A' : Option Addr) (n' c' : Nat) (e' : Int) : Below u0.heap.size u0 (World.put6 w X g A n c e g' A' n' c' e') :=
  below_put6 hh.1 (hh.2 X (List.mem_cons.2 (Or.inl rfl))).2 _ _ _ _ _ _ _ _ _ _
end
/-- Two numbers in a new block. -/
def RelNI (u0 : World) (p : Nat) (g1 : Bool) (A1 : Option Addr) (m1 c1 : Nat) (e1 : Int) (V1 : Nat) (zs : List Nat) (g2 : Bool) (A2 : Option Addr) (m2 c2 : Nat) (e2 : Int) (V2 : Nat) (us : List Nat) (w : World) : Prop :=
  Below u0.heap.size u0 w ∧ Sb w p 34 g1 A1 m1 c1 e1 g2 A2 m2 c2 e2 ∧ Dn w V1 A1 m1 c1 zs ∧ Dn w V2 A2 m2 c2 us
section
variable {u0 : World} {g1 : Bool} {A1 : Option Addr} {m1 c1 : Nat} {e1 : Int} {V1 : Nat} {zs : List Nat} {g2 : Bool} {A2 : Option Addr} {m2 c2 : Nat} {e2 : Int} {V2 : Nat} {us : List Nat} {w : World}
theorem RelNI.last (hh : HoldUN u0 [] w) (h1 : Dn w V1 A1 m1 c1 zs) (h2 : Dn w V2 A2 m2 c2 us) : RelNI u0 w.heap.size g1 A1 m1 c1 e1 V1 zs g2 A2 m2 c2 e2 V2 us (w.alloc (.cells #[.bool g1, .slice A1 m1 c1, .int .i64 e1, .bool g2, .slice A2 m2 c2, .int .i64 e2] 34)) :=
  ⟨hh.1.trans ((below1 w _).mono hh.1.size), Sb.new w _ _ _ _ _ _ _ _ _ _ _, h1.below (below1 w _), h2.below (below1 w _)⟩
theorem RelNI.ahead {X : Nat} (hh : HoldUN u0 [X] w) (h1 : Dn w V1 A1 m1 c1 zs) (h2 : Dn w V2 A2 m2 c2 us) : RelNI u0 X g1 A1 m1 c1 e1 V1 zs g2 A2 m2 c2 e2 V2 us (World.put6 w X g1 A1 m1 c1 e1 g2 A2 m2 c2 e2) :=
  ⟨hh.at1 _ _ _ _ _ _ _ _ _ _, hh.first.put _ _ _ _ _ _ _ _ _ _, ⟨hh.first.dig h1.1 _ _ _ _ _ _ _ _ _ _, h1.2⟩, ⟨hh.first.dig h2.1 _ _ _ _ _ _ _ _ _ _, h2.2⟩⟩
end
/-- An interval and a small error, its ends not long: what is told of them. -/
def ETold (w : World) (r : Int) (Q : Dy → Dy → Nat → Nat → Prop) (e : Ending) (w' : World) : Prop :=
  ∃ g1 A1 m1 c1 zs e1 g2 A2 m2 c2 us e2, e = .returned (.tuple #[.agg #[.bool g1, .slice A1 m1 c1, .int .i64 e1, .bool g2, .slice A2 m2 c2, .int .i64 e2], .int .i64 r]) ∧ m1 ≤ 100000 ∧ m2 ≤ 100000 ∧ Lim w' A1 m1 c1 zs ∧ Lim w' A2 m2 c2 us ∧ Bare zs ∧ Bare us ∧ Below w.heap.size w w' ∧ Q ⟨g1, val zs, e1⟩ ⟨g2, val us, e2⟩ m1 m2
theorem etold_of {w : World} {r : Int} {P : Dy → Dy → Int → Nat → Nat → Prop} {Q : Dy → Dy → Nat → Nat → Prop} {e : Ending} {w' : World} (h : VTold w P e w') (hq : ∀ X Y z m n, P X Y z m n → z = r ∧ Q X Y m n) : ETold w r Q e w' := by
  obtain ⟨g1, A1, m1, c1, zs, e1, g2, A2, m2, c2, us, e2, z, rfl, h1, h2, l1, l2, b1, b2, hB, hP⟩ := h
  obtain ⟨rfl, hQ⟩ := hq _ _ _ _ _ hP
  exact ⟨g1, A1, m1, c1, zs, e1, g2, A2, m2, c2, us, e2, rfl, h1, h2, l1, l2, b1, b2, hB, hQ⟩
/-- A dyad and a small error. -/
def WTold5 (w : World) (r : Int) (Q : Dy → Nat → Prop) (e : Ending) (w' : World) : Prop :=
  ∃ g A m c zs e1, e = .returned (.tuple #[.agg #[.bool g, .slice A m c, .int .i64 e1], .int .i64 r]) ∧ m ≤ 100000 ∧ Lim w' A m c zs ∧ Bare zs ∧ Below w.heap.size w w' ∧ Q ⟨g, val zs, e1⟩ m
end Go.Proofs.YtafgooiakmmfkaaDoor
