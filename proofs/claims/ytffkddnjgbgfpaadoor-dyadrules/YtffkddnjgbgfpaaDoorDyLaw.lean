/- Words for the walk of DyadRules; what the law says of numbers. -/
import Derived.Test.YtffkddnjgbgfpaaDoorDyAlive
import Derived.Deep.Cut
namespace Go.Proofs.YtffkddnjgbgfpaaDoor
open Go.RowKit

/-- While the law is walked: the three that came in, in blocks of its own. -/
def Law3 (w0 : World) (p1 : Nat) (g1 : Bool) (A1 : Option Addr) (n1 c1 : Nat) (xs : List Nat) (e1 : Int) (p2 : Nat) (g2 : Bool) (A2 : Option Addr) (n2 c2 : Nat) (ys : List Nat) (e2 : Int) (p3 : Nat) (g3 : Bool) (A3 : Option Addr) (n3 c3 : Nat) (zs : List Nat) (e3 : Int) (w : World) : Prop :=
  (Bd w p1 28 g1 A1 n1 c1 e1 ∧ Lim w A1 n1 c1 xs) ∧ (Bd w p2 28 g2 A2 n2 c2 e2 ∧ Lim w A2 n2 c2 ys) ∧ (Bd w p3 28 g3 A3 n3 c3 e3 ∧ Lim w A3 n3 c3 zs) ∧ Tab w ∧ Below w0.heap.size w0 w
theorem Law3.below {w0 : World} {p1 : Nat} {g1 : Bool} {A1 : Option Addr} {n1 c1 : Nat} {xs : List Nat} {e1 : Int} {p2 : Nat} {g2 : Bool} {A2 : Option Addr} {n2 c2 : Nat} {ys : List Nat} {e2 : Int} {p3 : Nat} {g3 : Bool} {A3 : Option Addr} {n3 c3 : Nat} {zs : List Nat} {e3 : Int} {w w' : World}
    (h : Law3 w0 p1 g1 A1 n1 c1 xs e1 p2 g2 A2 n2 c2 ys e2 p3 g3 A3 n3 c3 zs e3 w) (hb : Below w.heap.size w w') : Law3 w0 p1 g1 A1 n1 c1 xs e1 p2 g2 A2 n2 c2 ys e2 p3 g3 A3 n3 c3 zs e3 w' := by
  obtain ⟨⟨a1, a2⟩, ⟨b1, b2⟩, ⟨d1, d2⟩, h5, h6⟩ := h
  exact ⟨⟨a1.below hb, a2.below hb⟩, ⟨b1.below hb, b2.below hb⟩, ⟨d1.below hb, d2.below hb⟩, h5.below hb, h6.trans (hb.mono h6.size)⟩
theorem three_new (W : World) (t : Nat) (g1 : Bool) (A1 : Option Addr) (n1 c1 : Nat) (e1 : Int) (g2 : Bool) (A2 : Option Addr) (n2 c2 : Nat) (e2 : Int) (g3 : Bool) (A3 : Option Addr) (n3 c3 : Nat) (e3 : Int) :
    Bd (((W.alloc (.cells #[.bool g1, .slice A1 n1 c1, .int .i64 e1] t)).alloc (.cells #[.bool g2, .slice A2 n2 c2, .int .i64 e2] t)).alloc (.cells #[.bool g3, .slice A3 n3 c3, .int .i64 e3] t)) W.heap.size t g1 A1 n1 c1 e1 ∧ Bd (((W.alloc (.cells #[.bool g1, .slice A1 n1 c1, .int .i64 e1] t)).alloc (.cells #[.bool g2, .slice A2 n2 c2, .int .i64 e2] t)).alloc (.cells #[.bool g3, .slice A3 n3 c3, .int .i64 e3] t)) (W.heap.size + 1) t g2 A2 n2 c2 e2 ∧ Bd (((W.alloc (.cells #[.bool g1, .slice A1 n1 c1, .int .i64 e1] t)).alloc (.cells #[.bool g2, .slice A2 n2 c2, .int .i64 e2] t)).alloc (.cells #[.bool g3, .slice A3 n3 c3, .int .i64 e3] t)) (W.heap.size + 1 + 1) t g3 A3 n3 c3 e3 ∧ Below W.heap.size W (((W.alloc (.cells #[.bool g1, .slice A1 n1 c1, .int .i64 e1] t)).alloc (.cells #[.bool g2, .slice A2 n2 c2, .int .i64 e2] t)).alloc (.cells #[.bool g3, .slice A3 n3 c3, .int .i64 e3] t)) := by
  have b1 := ((Bd.new W t g1 A1 n1 c1 e1).alloc (.cells #[.bool g2, .slice A2 n2 c2, .int .i64 e2] t)).alloc (.cells #[.bool g3, .slice A3 n3 c3, .int .i64 e3] t)
  have b2 := (Bd.new (W.alloc (.cells #[.bool g1, .slice A1 n1 c1, .int .i64 e1] t)) t g2 A2 n2 c2 e2).alloc (.cells #[.bool g3, .slice A3 n3 c3, .int .i64 e3] t)
  have b3 := Bd.new ((W.alloc (.cells #[.bool g1, .slice A1 n1 c1, .int .i64 e1] t)).alloc (.cells #[.bool g2, .slice A2 n2 c2, .int .i64 e2] t)) t g3 A3 n3 c3 e3
  rw [World.size_alloc] at b2
  rw [World.size_alloc, World.size_alloc] at b3
  exact ⟨b1, b2, b3, (((Below.refl _ _).alloc (Nat.le_refl _) _).alloc (by simp) _).alloc (by simp; omega) _⟩

/-- The cells of three dyads. -/
abbrev Nine (w' : World) (b1 : Nat) (g1 : Bool) (A1 : Option Addr) (n1 c1 : Nat) (e1 : Int) (b2 : Nat) (g2 : Bool) (A2 : Option Addr) (n2 c2 : Nat) (e2 : Int) (b3 : Nat) (g3 : Bool) (A3 : Option Addr) (n3 c3 : Nat) (e3 : Int) : Prop :=
  w'.cell? ⟨b1, 0, none⟩ = some (.bool g1) ∧ w'.cell? ⟨b1, 1, none⟩ = some (.slice A1 n1 c1) ∧ w'.cell? ⟨b1, 2, none⟩ = some (.int .i64 e1) ∧ w'.cell? ⟨b2, 0, none⟩ = some (.bool g2) ∧ w'.cell? ⟨b2, 1, none⟩ = some (.slice A2 n2 c2) ∧ w'.cell? ⟨b2, 2, none⟩ = some (.int .i64 e2) ∧ w'.cell? ⟨b3, 0, none⟩ = some (.bool g3) ∧ w'.cell? ⟨b3, 1, none⟩ = some (.slice A3 n3 c3) ∧ w'.cell? ⟨b3, 2, none⟩ = some (.int .i64 e3)
theorem Bd.nine {w : World} {b1 t1 : Nat} {g1 : Bool} {A1 : Option Addr} {n1 c1 : Nat} {e1 : Int} {b2 t2 : Nat} {g2 : Bool} {A2 : Option Addr} {n2 c2 : Nat} {e2 : Int} {b3 t3 : Nat} {g3 : Bool} {A3 : Option Addr} {n3 c3 : Nat} {e3 : Int} (h1 : Bd w b1 t1 g1 A1 n1 c1 e1) (h2 : Bd w b2 t2 g2 A2 n2 c2 e2) (h3 : Bd w b3 t3 g3 A3 n3 c3 e3) :
    Nine w b1 g1 A1 n1 c1 e1 b2 g2 A2 n2 c2 e2 b3 g3 A3 n3 c3 e3 := ⟨h1.c0, h1.c1, h1.c2, h2.c0, h2.c1, h2.c2, h3.c0, h3.c1, h3.c2⟩

/-- A dyad in a block of the law's. -/
structure Vd where
  p : Nat
  g : Bool
  A : Option Addr
  n : Nat
  c : Nat
  e : Int
  xs : List Nat
def Vd.In (v : Vd) (w : World) : Prop := Bd w v.p 28 v.g v.A v.n v.c v.e ∧ Lim w v.A v.n v.c v.xs
theorem Vd.In.below {v : Vd} {w w' : World} (h : v.In w) (hb : Below w.heap.size w w') : v.In w' := ⟨h.1.below hb, h.2.below hb⟩
theorem Vd.In.lt {v : Vd} {w : World} (h : v.In w) : v.p < w.heap.size := h.1.lt
/-- All of them. -/
def Law5 (w0 : World) (x y z s t : Vd) (w : World) : Prop := x.In w ∧ y.In w ∧ z.In w ∧ s.In w ∧ t.In w ∧ Tab w ∧ Below w0.heap.size w0 w
section
variable {w0 : World} {x y z s t : Vd} {w w' : World}
theorem Law5.below (h : Law5 w0 x y z s t w) (hb : Below w.heap.size w w') : Law5 w0 x y z s t w' := by
  obtain ⟨h1, h2, h3, h4, h5, h6, h7⟩ := h
  exact ⟨h1.below hb, h2.below hb, h3.below hb, h4.below hb, h5.below hb, h6.below hb, h7.trans (hb.mono h7.size)⟩
theorem Vd.In.put {v : Vd} (h : v.In w) {b t' : Nat} {g : Bool} {A : Option Addr} {n c : Nat} {e : Int} (hB : Bd w b t' g A n c e) (hb : v.p < b) (g' : Bool) (A' : Option Addr) (n' c' : Nat) (e' : Int) : v.In (World.put w b g' A' n' c' e') :=
  ⟨h.1.other (by omega) _ _ _ _ _, hB.lim h.2 _ _ _ _ _⟩
/-- A newer block turned. -/
theorem Law5.put {u : World} (h0 : Law5 w0 x y z s t u) (h : Law5 w0 x y z s t w) {b t' : Nat} {g : Bool} {A : Option Addr} {n c : Nat} {e : Int} (hB : Bd w b t' g A n c e) (hb : u.heap.size ≤ b) (g' : Bool) (A' : Option Addr) (n' c' : Nat) (e' : Int) : Law5 w0 x y z s t (World.put w b g' A' n' c' e') := by
  obtain ⟨a1, a2, a3, a4, a5, _, a7⟩ := h0
  obtain ⟨h1, h2, h3, h4, h5, h6, h7⟩ := h
  have b1 := a1.lt
  have b2 := a2.lt
  have b3 := a3.lt
  have b4 := a4.lt
  have b5 := a5.lt
  have b7 := a7.size
  exact ⟨h1.put hB (by omega) _ _ _ _ _, h2.put hB (by omega) _ _ _ _ _, h3.put hB (by omega) _ _ _ _ _, h4.put hB (by omega) _ _ _ _ _, h5.put hB (by omega) _ _ _ _ _, hB.tab h6 _ _ _ _ _, below_put h7 (by omega) _ _ _ _ _⟩
end

/-- The cells of two of them, and all that is held. -/
abbrev CellsQ (x y : Vd) (Q : World → Prop) (w' : World) : Prop :=
  w'.cell? ⟨x.p, 0, none⟩ = some (.bool x.g) ∧ w'.cell? ⟨x.p, 1, none⟩ = some (.slice x.A x.n x.c) ∧ w'.cell? ⟨x.p, 2, none⟩ = some (.int .i64 x.e) ∧ w'.cell? ⟨y.p, 0, none⟩ = some (.bool y.g) ∧ w'.cell? ⟨y.p, 1, none⟩ = some (.slice y.A y.n y.c) ∧ w'.cell? ⟨y.p, 2, none⟩ = some (.int .i64 y.e) ∧ Hid (Q w')
theorem cellsQ {x y : Vd} {Q : World → Prop} {w : World} (hx : x.In w) (hy : y.In w) (h : Q w) : CellsQ x y Q w := ⟨hx.1.c0, hx.1.c1, hx.1.c2, hy.1.c0, hy.1.c1, hy.1.c2, h⟩
/-- .. of four. -/
abbrev CellsR (x y s t : Vd) (Q : World → Prop) (w' : World) : Prop :=
  w'.cell? ⟨s.p, 0, none⟩ = some (.bool s.g) ∧ w'.cell? ⟨s.p, 1, none⟩ = some (.slice s.A s.n s.c) ∧ w'.cell? ⟨s.p, 2, none⟩ = some (.int .i64 s.e) ∧ w'.cell? ⟨t.p, 0, none⟩ = some (.bool t.g) ∧ w'.cell? ⟨t.p, 1, none⟩ = some (.slice t.A t.n t.c) ∧ w'.cell? ⟨t.p, 2, none⟩ = some (.int .i64 t.e) ∧ CellsQ x y Q w'
theorem cellsR {x y s t : Vd} {Q : World → Prop} {w : World} (hx : x.In w) (hy : y.In w) (hs : s.In w) (ht : t.In w) (h : Q w) : CellsR x y s t Q w := ⟨hs.1.c0, hs.1.c1, hs.1.c2, ht.1.c0, ht.1.c1, ht.1.c2, cellsQ hx hy h⟩

/-! What the law says of numbers. -/
theorem back_worth {g1 g2 : Bool} {V1 V2 : Nat} {e1 e2 : Int} {d m b : Dy} (h1 : addO (mk g1 V1 e1) (mk g2 V2 e2) = some d) (h2 : mk (!g2) V2 e2 = some m) (h3 : addO (mk d.neg d.V d.e) (mk m.neg m.V m.e) = some b) : dw b.neg b.V b.e = dw g1 V1 e1 := by
  have k1 := (addO_fine h1).2
  have k2 := (mk_fine h2).2.1
  have k3 := (addO_fine h3).2
  rw [k3, k1, k2, dw_neg]
  omega
theorem shared_out {g1 g2 g3 : Bool} {V1 V2 V3 : Nat} {e1 e2 e3 : Int} {d p q r u : Dy} (h1 : addO (mk g1 V1 e1) (mk g2 V2 e2) = some d) (hp : mulO (mk d.neg d.V d.e) (mk g3 V3 e3) = some p) (hq : mulO (mk g1 V1 e1) (mk g3 V3 e3) = some q) (hr : mulO (mk g2 V2 e2) (mk g3 V3 e3) = some r) (hu : addO (mk q.neg q.V q.e) (mk r.neg r.V r.e) = some u) : dw p.neg p.V p.e = dw u.neg u.V u.e := by
  have k1 := (addO_fine h1).2
  have k2 := (mulO_fine hp).2
  have k3 := (mulO_fine hq).2
  have k4 := (mulO_fine hr).2
  have k5 := (addO_fine hu).2
  have hK : ((2 ^ sh 0 : Nat) : Int) ≠ 0 := by have := Nat.two_pow_pos (sh 0); omega
  generalize ((2 ^ sh 0 : Nat) : Int) = K at *
  apply Int.eq_of_mul_eq_mul_right hK
  rw [k2, k5, Int.add_mul, k3, k4, k1, Int.add_mul]
end Go.Proofs.YtffkddnjgbgfpaaDoor
