/- The walks of iv.own (of what can be bare) and iv.At; intervals that are told. -/
import Derived.Test.YtafgooiakmmfkaaDoorIvRight
import Derived.Deep.RegionHeld3
namespace Go.Proofs.YtafgooiakmmfkaaDoor
open Go.RowKit

/-- An interval alone; an interval and an error. -/
def UTold (w : World) (P : Dy → Dy → Prop) (e : Ending) (w' : World) : Prop :=
  ∃ g1 A1 m1 c1 zs e1 g2 A2 m2 c2 us e2, e = .returned (.agg #[.bool g1, .slice A1 m1 c1, .int .i64 e1, .bool g2, .slice A2 m2 c2, .int .i64 e2]) ∧ m1 ≤ 100000 ∧ m2 ≤ 100000 ∧ Lim w' A1 m1 c1 zs ∧ Lim w' A2 m2 c2 us ∧ Bare zs ∧ Bare us ∧ Below w.heap.size w w' ∧ P ⟨g1, val zs, e1⟩ ⟨g2, val us, e2⟩
def VTold (w : World) (P : Dy → Dy → Int → Nat → Nat → Prop) (e : Ending) (w' : World) : Prop :=
  ∃ g1 A1 m1 c1 zs e1 g2 A2 m2 c2 us e2 r, e = .returned (.tuple #[.agg #[.bool g1, .slice A1 m1 c1, .int .i64 e1, .bool g2, .slice A2 m2 c2, .int .i64 e2], .int .i64 r]) ∧ m1 ≤ 100000 ∧ m2 ≤ 100000 ∧ Lim w' A1 m1 c1 zs ∧ Lim w' A2 m2 c2 us ∧ Bare zs ∧ Bare us ∧ Below w.heap.size w w' ∧ P ⟨g1, val zs, e1⟩ ⟨g2, val us, e2⟩ r m1 m2

set_option maxHeartbeats 2000000 in
set_option maxRecDepth 20000 in
theorem own_l (b : Dy) (g : Bool) (A : Option Addr) (n c : Nat) (xs : List Nat) (e1 : Int) (w : World) (hA : Lim w A n c xs) (hn : n ≤ 100000) (hT : Tab w) (ho : Hid (mk g (val xs) e1 = some b)) :
    Calls Tryd.prog 62 #[.agg #[.bool g, .slice A n c, .int .i64 e1]] w (Tells1 w b.neg b.V n b.e) := by
  have a3 : Below w.heap.size w ((w.alloc (.cells #[.bool g, .slice A n c, .int .i64 e1] 36)).alloc (.cells #[.bool false, .slice none 0 0, .int .i64 0] 36)) := ((Below.refl _ _).alloc (Nat.le_refl _) _).alloc (by simp) _
  have H1 := dbare_any g A n c xs e1 _ (hA.below a3) (by omega) (hT.below a3)
  have b1 := (Bd.new w 36 g A n c e1).alloc (.cells #[.bool false, .slice none 0 0, .int .i64 0] 36)
  have b2 := Bd.new (w.alloc (.cells #[.bool g, .slice A n c, .int .i64 e1] 36)) 36 false none 0 0 0
  rw [World.size_alloc] at b2
  have x0 := b1.c0
  have x1 := b1.c1
  have x2 := b1.c2
  have Hb2 := Lib.hid b2
  have HS := Lib.hid a3
  rw [ho.out] at H1
  replace H1 := Lib.hid H1
  clear hA a3 b1 b2 hT ho
  go_enter Tryd.func62, Tryd.ntmps62
  go_wp2_with fail
  refine H1.out.mono ?_
  rintro e w1 ⟨g1, A1, m1, c1, zs, E1, r1, rfl, hm1, hl1, hb1, ⟨rfl, rfl, hz, rfl⟩, hB1⟩
  clear x0 x1 x2
  have k2 := Hb2.out.below hB1
  have Hfin : Hid (Tells1 w b.neg b.V n b.e (.returned (.agg #[.bool b.neg, .slice A1 m1 c1, .int .i64 b.e])) (World.put (w1.alloc (.cells #[.bool b.neg, .slice A1 m1 c1, .int .i64 b.e] 36)) (w.heap.size + 1) b.neg A1 m1 c1 b.e)) :=
    ⟨A1, m1, c1, zs, rfl, hm1, (k2.alloc _).lim (hl1.alloc _) _ _ _ _ _, hb1, hz, below_put ((HS.out.trans (hB1.mono HS.out.size)).alloc (HS.out.trans (hB1.mono HS.out.size)).size _) (Nat.le_succ _) _ _ _ _ _⟩
  have y0 := fun o => (k2.alloc o).c0
  have y1 := fun o => (k2.alloc o).c1
  have y2 := fun o => (k2.alloc o).c2
  have yf := fun o => (k2.alloc o).fz
  clear k2 hB1 hl1 hb1 H1 Hb2 HS hz
  go_wp2
  exact bodyPost_ret (v := .agg #[.bool b.neg, .slice A1 m1 c1, .int .i64 b.e]) (by simp [results, Tryd.results62, go_sem, y0, y1, y2]) rfl Hfin.out

/-- A dyad that came in, in its block; the result's block behind it. -/
def HoldA (w : World) (g : Bool) (A : Option Addr) (n c : Nat) (xs : List Nat) (e1 : Int) (u : World) : Prop :=
  Bd u w.heap.size 36 g A n c e1 ∧ Ib u (w.heap.size + 1) false none 0 0 0 false none 0 0 0 ∧ Lim u A n c xs ∧ Tab u ∧ Below w.heap.size w u
section
variable {w u u' : World} {g : Bool} {A : Option Addr} {n c : Nat} {xs : List Nat} {e1 : Int}
theorem HoldA.below (h : HoldA w g A n c xs e1 u) (hb : Below u.heap.size u u') : HoldA w g A n c xs e1 u' :=
  ⟨h.1.below hb, h.2.1.below hb, h.2.2.1.below hb, h.2.2.2.1.below hb, h.2.2.2.2.trans (hb.mono h.2.2.2.2.size)⟩
theorem HoldA.start (hA : Lim w A n c xs) (hT : Tab w) : HoldA w g A n c xs e1 ((w.alloc (.cells #[.bool g, .slice A n c, .int .i64 e1] 36)).alloc (.cells #[.bool false, .slice none 0 0, .int .i64 0, .bool false, .slice none 0 0, .int .i64 0] 38)) := by
  have a := below1 w (.cells #[.bool g, .slice A n c, .int .i64 e1] 36)
  have b := below1 (w.alloc (.cells #[.bool g, .slice A n c, .int .i64 e1] 36)) (.cells #[.bool false, .slice none 0 0, .int .i64 0, .bool false, .slice none 0 0, .int .i64 0] 38)
  have i := Ib.new (w.alloc (.cells #[.bool g, .slice A n c, .int .i64 e1] 36)) false none 0 0 0 false none 0 0 0
  rw [World.size_alloc] at i
  exact ⟨(Bd.new w _ _ _ _ _ _).alloc _, i, (hA.below a).below b, (hT.below a).below b, a.trans (b.mono a.size)⟩
theorem HoldA.cells (h : HoldA w g A n c xs e1 u) : u.cell? ⟨w.heap.size, 0, none⟩ = some (.bool g) ∧ u.cell? ⟨w.heap.size, 1, none⟩ = some (.slice A n c) ∧ u.cell? ⟨w.heap.size, 2, none⟩ = some (.int .i64 e1) := ⟨h.1.c0, h.1.c1, h.1.c2⟩
theorem HoldA.kept (h : HoldA w g A n c xs e1 u) (g1 : Bool) (A1 : Option Addr) (m1 c1 : Nat) (e1' : Int) (g2 : Bool) (A2 : Option Addr) (m2 c2 : Nat) (e2 : Int) : (World.put6 u (w.heap.size + 1) g1 A1 m1 c1 e1' g2 A2 m2 c2 e2).cell? ⟨w.heap.size, 0, none⟩ = some (.bool g) ∧ (World.put6 u (w.heap.size + 1) g1 A1 m1 c1 e1' g2 A2 m2 c2 e2).cell? ⟨w.heap.size, 1, none⟩ = some (.slice A n c) ∧ (World.put6 u (w.heap.size + 1) g1 A1 m1 c1 e1' g2 A2 m2 c2 e2).cell? ⟨w.heap.size, 2, none⟩ = some (.int .i64 e1) := by
  have ne : ∀ o : Nat, (Addr.mk w.heap.size o none).block ≠ w.heap.size + 1 := fun o => by show w.heap.size ≠ _; omega
  exact ⟨by rw [put6_cell _ _ _ _ _ _ _ _ _ _ _ _ _ (ne 0)]; exact h.1.c0, by rw [put6_cell _ _ _ _ _ _ _ _ _ _ _ _ _ (ne 1)]; exact h.1.c1, by rw [put6_cell _ _ _ _ _ _ _ _ _ _ _ _ _ (ne 2)]; exact h.1.c2⟩
theorem HoldA.out (h : HoldA w g A n c xs e1 u) {P : Dy → Dy → Prop} {g1 : Bool} {A1 : Option Addr} {m1 c1 : Nat} {zs : List Nat} {e1' : Int} {g2 : Bool} {A2 : Option Addr} {m2 c2 : Nat} {us : List Nat} {e2 : Int}
    (hm1 : m1 ≤ 100000) (hm2 : m2 ≤ 100000) (h1 : Lim u A1 m1 c1 zs) (h2 : Lim u A2 m2 c2 us) (b1 : Bare zs) (b2 : Bare us) (hP : P ⟨g1, val zs, e1'⟩ ⟨g2, val us, e2⟩) :
    UTold w P (.returned (.agg #[.bool g1, .slice A1 m1 c1, .int .i64 e1', .bool g2, .slice A2 m2 c2, .int .i64 e2])) (World.put6 u (w.heap.size + 1) g1 A1 m1 c1 e1' g2 A2 m2 c2 e2) :=
  ⟨g1, A1, m1, c1, zs, e1', g2, A2, m2, c2, us, e2, rfl, hm1, hm2, h.2.1.lim h1 _ _ _ _ _ _ _ _ _ _, h.2.1.lim h2 _ _ _ _ _ _ _ _ _ _, b1, b2, below_put6 h.2.2.2.2 (Nat.le_succ _) _ _ _ _ _ _ _ _ _ _, hP⟩
end

set_option maxHeartbeats 4000000 in
set_option maxRecDepth 20000 in
theorem at15_l (b : Dy) (g : Bool) (A : Option Addr) (n c : Nat) (xs : List Nat) (e1 : Int) (w : World) (hA : Lim w A n c xs) (hn : n ≤ 100000) (hT : Tab w) (ho : Hid (mk g (val xs) e1 = some b)) :
    Calls Tryd.prog 30 #[.agg #[.bool g, .slice A n c, .int .i64 e1]] w (UTold w (fun X Y => X = b ∧ Y = b)) := by
  have k0 := HoldA.start (g := g) (e1 := e1) hA hT
  have C : Hid (∀ u, HoldA w g A n c xs e1 u → Calls Tryd.prog 62 #[.agg #[.bool g, .slice A n c, .int .i64 e1]] u (Tells1 u b.neg b.V n b.e)) := fun u hu => own_l b g A n c xs e1 u hu.2.2.1 hn hu.2.2.2.1 ho
  have K0 := Lib.hid (k0.below (below_drew _))
  clear hA hT k0 ho
  go_enter Tryd.func30, Tryd.ntmps30
  go_wp2_with fail
  have y := K0.out.cells
  go_region_held3 (fun u => u.cell? ⟨w.heap.size, 0, none⟩ = some (.bool g) ∧ u.cell? ⟨w.heap.size, 1, none⟩ = some (.slice A n c) ∧ u.cell? ⟨w.heap.size, 2, none⟩ = some (.int .i64 e1)) (first | (with_reducible exact K0.out.cells) | (with_reducible exact K0.out.kept _ _ _ _ _ _ _ _ _ _))
    (first
      | (have chk := L1; clear chk; go_at_call 62; (with_reducible refine (C.out _ K0.out).mono ?_); rintro e u2 ⟨A2, m2, c2, zs2, rfl, hm2, hl2, hb2, hv2, hB2⟩; replace K0 := Lib.hid (K0.out.below hB2); replace L1 := Lib.hid (L1.out.below hB2); have L2 : Hid (Lim u2 A2 m2 c2 zs2) := hl2; clear hl2 hB2; have z0 := K0.out.2.1.x0; have z1 := K0.out.2.1.x1; have z2 := K0.out.2.1.x2; have z3 := K0.out.2.1.x3; have z4 := K0.out.2.1.x4; have z5 := K0.out.2.1.x5; have zf := K0.out.2.1.fz)
      | (go_at_call 62; (with_reducible refine (C.out _ K0.out).mono ?_); rintro e u1 ⟨A1, m1, c1, zs1, rfl, hm1, hl1, hb1, hv1, hB1⟩; replace K0 := Lib.hid (K0.out.below hB1); have L1 : Hid (Lim u1 A1 m1 c1 zs1) := hl1; clear hl1 hB1))
  all_goals (
    have Hfin := Lib.hid (K0.out.out (P := fun X Y => X = b ∧ Y = b) (g1 := b.neg) (e1' := b.e) (g2 := b.neg) (e2 := b.e) (by omega) (by omega) L1.out L2.out hb1 hb2 ⟨by rw [hv1], by rw [hv2]⟩)
    have u0 := K0.out.2.1.put b.neg A1 m1 c1 b.e b.neg A2 m2 c2 b.e
    have v0 := u0.x0
    have v1 := u0.x1
    have v2 := u0.x2
    have v3 := u0.x3
    have v4 := u0.x4
    have v5 := u0.x5
    clear K0 C L1 L2 u0 hb1 hb2 hv1 hv2
    go_wp2
    exact bodyPost_ret (v := .agg #[.bool b.neg, .slice A1 m1 c1, .int .i64 b.e, .bool b.neg, .slice A2 m2 c2, .int .i64 b.e]) (by simp [results, Tryd.results30, go_sem, v0, v1, v2, v3, v4, v5]) rfl Hfin.out)
end Go.Proofs.YtafgooiakmmfkaaDoor
