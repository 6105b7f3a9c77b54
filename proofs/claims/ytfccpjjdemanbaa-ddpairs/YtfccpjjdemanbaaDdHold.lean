/- Words for two numbers that are laid into new blocks, in whatever order the blocks came. -/
import Derived.Test.YtfccpjjdemanbaaDdWhole
namespace Go.Proofs.Ytfccpjjdemanbaa
open Go.RowKit

/-- A pair in its block, and new blocks, each with a number that is 0 yet; the newest first. -/
def HoldQ (w0 : World) (b h l : Nat) (bs : List Nat) (w : World) : Prop :=
  Pb w b h l ∧ Below w0.heap.size w0 w ∧ w0.heap.size ≤ b ∧ (∀ p ∈ bs, Bd w p 29 false none 0 0 0 ∧ w0.heap.size ≤ p ∧ b < p) ∧ bs.Pairwise (fun x y => y < x)
section
variable {w0 : World} {b h l : Nat} {bs : List Nat} {w w' : World}
theorem HoldQ.below (hh : HoldQ w0 b h l bs w) (hb : Below w.heap.size w w') : HoldQ w0 b h l bs w' :=
  ⟨hh.1.below hb, hh.2.1.trans (hb.mono hh.2.1.size), hh.2.2.1, fun p hp => ⟨(hh.2.2.2.1 p hp).1.below hb, (hh.2.2.2.1 p hp).2⟩, hh.2.2.2.2⟩
theorem HoldQ.one (hh : HoldQ w0 b h l bs w) : HoldQ w0 b h l (w.heap.size :: bs) (w.alloc (.cells #[.bool false, .slice none 0 0, .int .i64 0] 29)) := by
  have h2 := hh.below (below1 w (.cells #[.bool false, .slice none 0 0, .int .i64 0] 29))
  refine ⟨h2.1, h2.2.1, h2.2.2.1, fun p hp => ?_, ?_⟩
  · rcases List.mem_cons.1 hp with rfl | hp
    · exact ⟨Bd.new w _ _ _ _ _ _, hh.2.1.size, hh.1.lt⟩
    · exact h2.2.2.2.1 p hp
  · exact List.pairwise_cons.2 ⟨fun p hp => (hh.2.2.2.1 p hp).1.lt, hh.2.2.2.2⟩
theorem HoldQ.two (hh : HoldQ w0 b h l bs w) : HoldQ w0 b h l ((w.heap.size + 1) :: w.heap.size :: bs) ((w.alloc (.cells #[.bool false, .slice none 0 0, .int .i64 0] 29)).alloc (.cells #[.bool false, .slice none 0 0, .int .i64 0] 29)) := by
  have h2 := hh.one.one
  rw [World.size_alloc] at h2
  exact h2
theorem HoldQ.c0 (hh : HoldQ w0 b h l bs w) : w.cell? ⟨b, 0, none⟩ = some (.float .f64 h) := hh.1.c0
theorem HoldQ.c1 (hh : HoldQ w0 b h l bs w) : w.cell? ⟨b, 1, none⟩ = some (.float .f64 l) := hh.1.c1
theorem HoldQ.both (hh : HoldQ w0 b h l bs w) : w.cell? ⟨b, 0, none⟩ = some (.float .f64 h) ∧ w.cell? ⟨b, 1, none⟩ = some (.float .f64 l) := ⟨hh.1.c0, hh.1.c1⟩
theorem HoldQ.first {X : Nat} (hh : HoldQ w0 b h l (X :: bs) w) : Bd w X 29 false none 0 0 0 := (hh.2.2.2.1 X (List.mem_cons.2 (Or.inl rfl))).1
theorem HoldQ.second {X Y : Nat} (hh : HoldQ w0 b h l (Y :: X :: bs) w) : Bd w X 29 false none 0 0 0 ∧ X < Y :=
  ⟨(hh.2.2.2.1 X (List.mem_cons.2 (Or.inr (List.mem_cons.2 (Or.inl rfl))))).1, (List.pairwise_cons.1 hh.2.2.2.2).1 X (List.mem_cons.2 (Or.inl rfl))⟩
end
theorem Pb.put {w : World} {b h l : Nat} (hh : Pb w b h l) {p : Nat} (hp : b ≠ p) (g : Bool) (A : Option Addr) (n c : Nat) (e : Int) : Pb (World.put w p g A n c e) b h l := by
  unfold Pb; rw [put_heap _ _ _ _ _ _ _ _ hp]; exact hh
theorem Pb.both {w : World} {b h l : Nat} (hh : Pb w b h l) : w.cell? ⟨b, 0, none⟩ = some (.float .f64 h) ∧ w.cell? ⟨b, 1, none⟩ = some (.float .f64 l) := ⟨hh.c0, hh.c1⟩
section
variable {w0 : World} {b h l : Nat} {bs : List Nat} {w : World} {X Y : Nat}
theorem HoldQ.at1 (hh : HoldQ w0 b h l (X :: bs) w) (g : Bool) (A : Option Addr) (n c : Nat) (e : Int) : Pb (World.put w X g A n c e) b h l :=
  hh.1.put (Nat.ne_of_lt (hh.2.2.2.1 X (List.mem_cons.2 (Or.inl rfl))).2.2) _ _ _ _ _
theorem HoldQ.at2 (hh : HoldQ w0 b h l (Y :: X :: bs) w) (g : Bool) (A : Option Addr) (n c : Nat) (e : Int) : Pb (World.put w X g A n c e) b h l :=
  hh.1.put (Nat.ne_of_lt (hh.2.2.2.1 X (List.mem_cons.2 (Or.inr (List.mem_cons.2 (Or.inl rfl))))).2.2) _ _ _ _ _
theorem HoldQ.at12 (hh : HoldQ w0 b h l (Y :: X :: bs) w) (g : Bool) (A : Option Addr) (n c : Nat) (e : Int) (g' : Bool) (A' : Option Addr) (n' c' : Nat) (e' : Int) : Pb (World.put (World.put w Y g A n c e) X g' A' n' c' e') b h l :=
  (hh.at1 g A n c e).put (Nat.ne_of_lt (hh.2.2.2.1 X (List.mem_cons.2 (Or.inr (List.mem_cons.2 (Or.inl rfl))))).2.2) _ _ _ _ _
theorem HoldQ.at21 (hh : HoldQ w0 b h l (Y :: X :: bs) w) (g : Bool) (A : Option Addr) (n c : Nat) (e : Int) (g' : Bool) (A' : Option Addr) (n' c' : Nat) (e' : Int) : Pb (World.put (World.put w X g A n c e) Y g' A' n' c' e') b h l :=
  (hh.at2 g A n c e).put (Nat.ne_of_lt (hh.2.2.2.1 Y (List.mem_cons.2 (Or.inl rfl))).2.2) _ _ _ _ _
end
/-- Two numbers in new blocks. -/
def RelQ (w0 : World) (b h l : Nat) (p : Nat) (g1 : Bool) (A1 : Option Addr) (m1 c1 : Nat) (E1 : Int) (V1 : Nat) (es1 : List Nat) (q : Nat) (g2 : Bool) (A2 : Option Addr) (m2 c2 : Nat) (E2 : Int) (V2 : Nat) (es2 : List Nat) (w : World) : Prop :=
  Pb w b h l ∧ Below w0.heap.size w0 w ∧ Bd w p 29 g1 A1 m1 c1 E1 ∧ Mn w V1 A1 m1 c1 es1 ∧ Bd w q 29 g2 A2 m2 c2 E2 ∧ Mn w V2 A2 m2 c2 es2
theorem Mn.put {w : World} {V : Nat} {A : Option Addr} {m c : Nat} {es : List Nat} (h : Mn w V A m c es) {p t : Nat} {g0 : Bool} {A0 : Option Addr} {n0 c0 : Nat} {e0 : Int} (hb : Bd w p t g0 A0 n0 c0 e0) (g : Bool) (A' : Option Addr) (n' c' : Nat) (e : Int) : Mn (World.put w p g A' n' c' e) V A m c es := ⟨hb.dig h.1 _ _ _ _ _, h.2⟩
section
variable {w0 : World} {b h l : Nat} {g1 : Bool} {A1 : Option Addr} {m1 c1 : Nat} {E1 : Int} {V1 : Nat} {es1 : List Nat} {g2 : Bool} {A2 : Option Addr} {m2 c2 : Nat} {E2 : Int} {V2 : Nat} {es2 : List Nat} {w w' : World} {p q : Nat}
theorem RelQ.swap (hh : RelQ w0 b h l p g1 A1 m1 c1 E1 V1 es1 q g2 A2 m2 c2 E2 V2 es2 w) : RelQ w0 b h l q g2 A2 m2 c2 E2 V2 es2 p g1 A1 m1 c1 E1 V1 es1 w :=
  ⟨hh.1, hh.2.1, hh.2.2.2.2.1, hh.2.2.2.2.2, hh.2.2.1, hh.2.2.2.1⟩
theorem RelQ.below (hh : RelQ w0 b h l p g1 A1 m1 c1 E1 V1 es1 q g2 A2 m2 c2 E2 V2 es2 w) (hb : Below w.heap.size w w') : RelQ w0 b h l p g1 A1 m1 c1 E1 V1 es1 q g2 A2 m2 c2 E2 V2 es2 w' :=
  ⟨hh.1.below hb, hh.2.1.trans (hb.mono hh.2.1.size), hh.2.2.1.below hb, hh.2.2.2.1.below hb, hh.2.2.2.2.1.below hb, hh.2.2.2.2.2.below hb⟩
theorem RelQ.four (hh : RelQ w0 b h l p g1 A1 m1 c1 E1 V1 es1 q g2 A2 m2 c2 E2 V2 es2 w) : w.cell? ⟨b, 0, none⟩ = some (.float .f64 h) ∧ w.cell? ⟨b, 1, none⟩ = some (.float .f64 l) ∧ w.cell? ⟨p, 1, none⟩ = some (.slice A1 m1 c1) ∧ w.cell? ⟨q, 1, none⟩ = some (.slice A2 m2 c2) :=
  ⟨hh.1.c0, hh.1.c1, hh.2.2.1.c1, hh.2.2.2.2.1.c1⟩
theorem RelQ.mem1 (hh : RelQ w0 b h l p g1 A1 m1 c1 E1 V1 es1 q g2 A2 m2 c2 E2 V2 es2 w) : Mn w V1 A1 m1 c1 es1 := hh.2.2.2.1
theorem RelQ.mem2 (hh : RelQ w0 b h l p g1 A1 m1 c1 E1 V1 es1 q g2 A2 m2 c2 E2 V2 es2 w) : Mn w V2 A2 m2 c2 es2 := hh.2.2.2.2.2
/-- Both blocks came last. -/
theorem RelQ.new2 (hh : HoldQ w0 b h l [] w) (h1 : Mn w V1 A1 m1 c1 es1) (h2 : Mn w V2 A2 m2 c2 es2) :
    RelQ w0 b h l w.heap.size g1 A1 m1 c1 E1 V1 es1 (w.heap.size + 1) g2 A2 m2 c2 E2 V2 es2 ((w.alloc (.cells #[.bool g1, .slice A1 m1 c1, .int .i64 E1] 29)).alloc (.cells #[.bool g2, .slice A2 m2 c2, .int .i64 E2] 29)) := by
  have hb := ((Below.refl w.heap.size w).alloc (Nat.le_refl _) (.cells #[.bool g1, .slice A1 m1 c1, .int .i64 E1] 29)).alloc (by simp) (.cells #[.bool g2, .slice A2 m2 c2, .int .i64 E2] 29)
  have b2 := Bd.new (w.alloc (.cells #[.bool g1, .slice A1 m1 c1, .int .i64 E1] 29)) 29 g2 A2 m2 c2 E2
  rw [World.size_alloc] at b2
  exact ⟨hh.1.below hb, hh.2.1.trans (hb.mono hh.2.1.size), (Bd.new w _ _ _ _ _ _).alloc _, h1.below hb, b2, h2.below hb⟩
/-- One came ahead. -/
theorem RelQ.new1 {X : Nat} (hh : HoldQ w0 b h l [X] w) (h1 : Mn w V1 A1 m1 c1 es1) (h2 : Mn w V2 A2 m2 c2 es2) :
    RelQ w0 b h l X g1 A1 m1 c1 E1 V1 es1 w.heap.size g2 A2 m2 c2 E2 V2 es2 ((World.put w X g1 A1 m1 c1 E1).alloc (.cells #[.bool g2, .slice A2 m2 c2, .int .i64 E2] 29)) := by
  obtain ⟨k1, k2, k3⟩ := hh.2.2.2.1 X (List.mem_cons.2 (Or.inl rfl))
  have e1 := below_put hh.2.1 k2 g1 A1 m1 c1 E1
  have hb := below1 (World.put w X g1 A1 m1 c1 E1) (.cells #[.bool g2, .slice A2 m2 c2, .int .i64 E2] 29)
  have b2 := Bd.new (World.put w X g1 A1 m1 c1 E1) 29 g2 A2 m2 c2 E2
  rw [put_size] at b2
  exact ⟨(hh.1.put (by omega) _ _ _ _ _).below hb, e1.trans (hb.mono e1.size), (k1.put _ _ _ _ _).below hb, (h1.put k1 _ _ _ _ _).below hb, b2, (h2.put k1 _ _ _ _ _).below hb⟩
/-- Both came ahead. -/
theorem RelQ.new0 {X Y : Nat} (hh : HoldQ w0 b h l [Y, X] w) (h1 : Mn w V1 A1 m1 c1 es1) (h2 : Mn w V2 A2 m2 c2 es2) :
    RelQ w0 b h l X g1 A1 m1 c1 E1 V1 es1 Y g2 A2 m2 c2 E2 V2 es2 (World.put (World.put w X g1 A1 m1 c1 E1) Y g2 A2 m2 c2 E2) ∧
    RelQ w0 b h l X g1 A1 m1 c1 E1 V1 es1 Y g2 A2 m2 c2 E2 V2 es2 (World.put (World.put w Y g2 A2 m2 c2 E2) X g1 A1 m1 c1 E1) := by
  obtain ⟨x1, x2, x3⟩ := hh.2.2.2.1 X (List.mem_cons.2 (Or.inr (List.mem_cons.2 (Or.inl rfl))))
  obtain ⟨y1, y2, y3⟩ := hh.2.2.2.1 Y (List.mem_cons.2 (Or.inl rfl))
  have hXY := (List.pairwise_cons.1 hh.2.2.2.2).1 X (List.mem_cons.2 (Or.inl rfl))
  constructor
  · have q1 := x1.put g1 A1 m1 c1 E1
    have q2 := y1.other (b' := X) (by omega) g1 A1 m1 c1 E1
    exact ⟨(hh.1.put (by omega) _ _ _ _ _).put (by omega) _ _ _ _ _, below_put (below_put hh.2.1 x2 _ _ _ _ _) y2 _ _ _ _ _, q1.other (by omega) _ _ _ _ _, (h1.put x1 _ _ _ _ _).put q2 _ _ _ _ _, q2.put _ _ _ _ _, (h2.put x1 _ _ _ _ _).put q2 _ _ _ _ _⟩
  · have q1 := y1.put g2 A2 m2 c2 E2
    have q2 := x1.other (b' := Y) (by omega) g2 A2 m2 c2 E2
    exact ⟨(hh.1.put (by omega) _ _ _ _ _).put (by omega) _ _ _ _ _, below_put (below_put hh.2.1 y2 _ _ _ _ _) x2 _ _ _ _ _, q2.put _ _ _ _ _, (h1.put y1 _ _ _ _ _).put q2 _ _ _ _ _, q1.other (by omega) _ _ _ _ _, (h2.put y1 _ _ _ _ _).put q2 _ _ _ _ _⟩
end
end Go.Proofs.Ytfccpjjdemanbaa
