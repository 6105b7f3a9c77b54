/- The walk of iv.Times (written by law_itimes.py). -/
import Derived.Test.YtafgooiakmmfkaaDoorIvMulP
import Derived.Test.YtafgooiakmmfkaaDoorIvAt
import Derived.Test.YtafgooiakmmfkaaDoorTwoU
namespace Go.Proofs.YtafgooiakmmfkaaDoor
open Go.RowKit

/-- An interval and a dyad that came in, in their blocks; the result's block behind them. -/
def HoldX (w : World) (g1 : Bool) (A1 : Option Addr) (n1 c1 : Nat) (xs1 : List Nat) (e1 : Int) (g2 : Bool) (A2 : Option Addr) (n2 c2 : Nat) (xs2 : List Nat) (e2 : Int) (g3 : Bool) (A3 : Option Addr) (n3 c3 : Nat) (xs3 : List Nat) (e3 : Int) (u : World) : Prop :=
  Ib u w.heap.size g1 A1 n1 c1 e1 g2 A2 n2 c2 e2 ∧ Bd u (w.heap.size + 1) 36 g3 A3 n3 c3 e3 ∧ Ib u (w.heap.size + 1 + 1) false none 0 0 0 false none 0 0 0 ∧ (Lim u A1 n1 c1 xs1 ∧ Lim u A2 n2 c2 xs2 ∧ Lim u A3 n3 c3 xs3 ∧ Tab u) ∧ Below w.heap.size w u
section
variable {w u u' : World} {g1 : Bool} {A1 : Option Addr} {n1 c1 : Nat} {xs1 : List Nat} {e1 : Int} {g2 : Bool} {A2 : Option Addr} {n2 c2 : Nat} {xs2 : List Nat} {e2 : Int} {g3 : Bool} {A3 : Option Addr} {n3 c3 : Nat} {xs3 : List Nat} {e3 : Int}
theorem HoldX.below (h : HoldX w g1 A1 n1 c1 xs1 e1 g2 A2 n2 c2 xs2 e2 g3 A3 n3 c3 xs3 e3 u) (hb : Below u.heap.size u u') : HoldX w g1 A1 n1 c1 xs1 e1 g2 A2 n2 c2 xs2 e2 g3 A3 n3 c3 xs3 e3 u' :=
  ⟨h.1.below hb, h.2.1.below hb, h.2.2.1.below hb, ⟨h.2.2.2.1.1.below hb, h.2.2.2.1.2.1.below hb, h.2.2.2.1.2.2.1.below hb, h.2.2.2.1.2.2.2.below hb⟩, h.2.2.2.2.trans (hb.mono h.2.2.2.2.size)⟩
theorem HoldX.start (l1 : Lim w A1 n1 c1 xs1) (l2 : Lim w A2 n2 c2 xs2) (l3 : Lim w A3 n3 c3 xs3) (hT : Tab w) : HoldX w g1 A1 n1 c1 xs1 e1 g2 A2 n2 c2 xs2 e2 g3 A3 n3 c3 xs3 e3 (((w.alloc (.cells #[.bool g1, .slice A1 n1 c1, .int .i64 e1, .bool g2, .slice A2 n2 c2, .int .i64 e2] 38)).alloc (.cells #[.bool g3, .slice A3 n3 c3, .int .i64 e3] 36)).alloc (.cells #[.bool false, .slice none 0 0, .int .i64 0, .bool false, .slice none 0 0, .int .i64 0] 38)) := by
  have a := below1 w (.cells #[.bool g1, .slice A1 n1 c1, .int .i64 e1, .bool g2, .slice A2 n2 c2, .int .i64 e2] 38)
  have b := below1 (w.alloc (.cells #[.bool g1, .slice A1 n1 c1, .int .i64 e1, .bool g2, .slice A2 n2 c2, .int .i64 e2] 38)) (.cells #[.bool g3, .slice A3 n3 c3, .int .i64 e3] 36)
  have c := below1 ((w.alloc (.cells #[.bool g1, .slice A1 n1 c1, .int .i64 e1, .bool g2, .slice A2 n2 c2, .int .i64 e2] 38)).alloc (.cells #[.bool g3, .slice A3 n3 c3, .int .i64 e3] 36)) (.cells #[.bool false, .slice none 0 0, .int .i64 0, .bool false, .slice none 0 0, .int .i64 0] 38)
  have i := Bd.new (w.alloc (.cells #[.bool g1, .slice A1 n1 c1, .int .i64 e1, .bool g2, .slice A2 n2 c2, .int .i64 e2] 38)) 36 g3 A3 n3 c3 e3
  have j := Ib.new ((w.alloc (.cells #[.bool g1, .slice A1 n1 c1, .int .i64 e1, .bool g2, .slice A2 n2 c2, .int .i64 e2] 38)).alloc (.cells #[.bool g3, .slice A3 n3 c3, .int .i64 e3] 36)) false none 0 0 0 false none 0 0 0
  rw [World.size_alloc] at i j
  rw [World.size_alloc] at j
  have ab := a.trans (b.mono a.size)
  have abc := ab.trans (c.mono ab.size)
  exact ⟨((Ib.new w g1 A1 n1 c1 e1 g2 A2 n2 c2 e2).below b).below c, i.below c, j, ⟨l1.below abc, l2.below abc, l3.below abc, hT.below abc⟩, abc⟩
theorem HoldX.cells (h : HoldX w g1 A1 n1 c1 xs1 e1 g2 A2 n2 c2 xs2 e2 g3 A3 n3 c3 xs3 e3 u) : u.cell? ⟨w.heap.size, 0, none⟩ = some (.bool g1) ∧ u.cell? ⟨w.heap.size, 1, none⟩ = some (.slice A1 n1 c1) ∧ u.cell? ⟨w.heap.size, 2, none⟩ = some (.int .i64 e1) ∧ u.cell? ⟨w.heap.size, 3, none⟩ = some (.bool g2) ∧ u.cell? ⟨w.heap.size, 4, none⟩ = some (.slice A2 n2 c2) ∧ u.cell? ⟨w.heap.size, 5, none⟩ = some (.int .i64 e2) ∧ u.cell? ⟨w.heap.size + 1, 0, none⟩ = some (.bool g3) ∧ u.cell? ⟨w.heap.size + 1, 1, none⟩ = some (.slice A3 n3 c3) ∧ u.cell? ⟨w.heap.size + 1, 2, none⟩ = some (.int .i64 e3) := ⟨h.1.x0, h.1.x1, h.1.x2, h.1.x3, h.1.x4, h.1.x5, h.2.1.c0, h.2.1.c1, h.2.1.c2⟩
theorem HoldX.kept (h : HoldX w g1 A1 n1 c1 xs1 e1 g2 A2 n2 c2 xs2 e2 g3 A3 n3 c3 xs3 e3 u) (g : Bool) (A : Option Addr) (m c : Nat) (e : Int) (g' : Bool) (A' : Option Addr) (m' c' : Nat) (e' : Int) : (World.put6 u (w.heap.size + 1 + 1) g A m c e g' A' m' c' e').cell? ⟨w.heap.size, 0, none⟩ = some (.bool g1) ∧ (World.put6 u (w.heap.size + 1 + 1) g A m c e g' A' m' c' e').cell? ⟨w.heap.size, 1, none⟩ = some (.slice A1 n1 c1) ∧ (World.put6 u (w.heap.size + 1 + 1) g A m c e g' A' m' c' e').cell? ⟨w.heap.size, 2, none⟩ = some (.int .i64 e1) ∧ (World.put6 u (w.heap.size + 1 + 1) g A m c e g' A' m' c' e').cell? ⟨w.heap.size, 3, none⟩ = some (.bool g2) ∧ (World.put6 u (w.heap.size + 1 + 1) g A m c e g' A' m' c' e').cell? ⟨w.heap.size, 4, none⟩ = some (.slice A2 n2 c2) ∧ (World.put6 u (w.heap.size + 1 + 1) g A m c e g' A' m' c' e').cell? ⟨w.heap.size, 5, none⟩ = some (.int .i64 e2) ∧ (World.put6 u (w.heap.size + 1 + 1) g A m c e g' A' m' c' e').cell? ⟨w.heap.size + 1, 0, none⟩ = some (.bool g3) ∧ (World.put6 u (w.heap.size + 1 + 1) g A m c e g' A' m' c' e').cell? ⟨w.heap.size + 1, 1, none⟩ = some (.slice A3 n3 c3) ∧ (World.put6 u (w.heap.size + 1 + 1) g A m c e g' A' m' c' e').cell? ⟨w.heap.size + 1, 2, none⟩ = some (.int .i64 e3) := by
  have ne : ∀ o : Nat, (Addr.mk w.heap.size o none).block ≠ w.heap.size + 1 + 1 := fun o => by show w.heap.size ≠ _; omega
  have nf : ∀ o : Nat, (Addr.mk (w.heap.size + 1) o none).block ≠ w.heap.size + 1 + 1 := fun o => by show w.heap.size + 1 ≠ _; omega
  obtain ⟨a0, a1, a2, a3, a4, a5, b0, b1, b2⟩ := h.cells
  exact ⟨by rw [put6_cell _ _ _ _ _ _ _ _ _ _ _ _ _ (ne 0)]; exact a0, by rw [put6_cell _ _ _ _ _ _ _ _ _ _ _ _ _ (ne 1)]; exact a1, by rw [put6_cell _ _ _ _ _ _ _ _ _ _ _ _ _ (ne 2)]; exact a2, by rw [put6_cell _ _ _ _ _ _ _ _ _ _ _ _ _ (ne 3)]; exact a3, by rw [put6_cell _ _ _ _ _ _ _ _ _ _ _ _ _ (ne 4)]; exact a4, by rw [put6_cell _ _ _ _ _ _ _ _ _ _ _ _ _ (ne 5)]; exact a5, by rw [put6_cell _ _ _ _ _ _ _ _ _ _ _ _ _ (nf 0)]; exact b0, by rw [put6_cell _ _ _ _ _ _ _ _ _ _ _ _ _ (nf 1)]; exact b1, by rw [put6_cell _ _ _ _ _ _ _ _ _ _ _ _ _ (nf 2)]; exact b2⟩
end

set_option maxHeartbeats 4000000 in
set_option maxRecDepth 20000 in
theorem ivtimes_l (Q : Dy → Dy → Int → Nat → Nat → Prop) (b : Dy) (g1 : Bool) (A1 : Option Addr) (n1 c1 : Nat) (xs1 : List Nat) (e1 : Int) (g2 : Bool) (A2 : Option Addr) (n2 c2 : Nat) (xs2 : List Nat) (e2 : Int) (g3 : Bool) (A3 : Option Addr) (n3 c3 : Nat) (xs3 : List Nat) (e3 : Int) (w : World) (l1 : Lim w A1 n1 c1 xs1) (l2 : Lim w A2 n2 c2 xs2) (l3 : Lim w A3 n3 c3 xs3) (b3 : n3 ≤ 100000) (hT : Tab w) (ho : Hid (mk g3 (val xs3) e3 = some b))
    (hM : Hid (∀ u g4 A4 n4 c4 xs4 e4 g5 A5 n5 c5 xs5 e5, Lim u A1 n1 c1 xs1 → Lim u A2 n2 c2 xs2 → Tab u → Lim u A4 n4 c4 xs4 → Lim u A5 n5 c5 xs5 → Bare xs4 → Bare xs5 → (⟨g4, val xs4, e4⟩ : Dy) = b → (⟨g5, val xs5, e5⟩ : Dy) = b → Calls Tryd.prog 13 #[.agg #[.bool g1, .slice A1 n1 c1, .int .i64 e1, .bool g2, .slice A2 n2 c2, .int .i64 e2], .agg #[.bool g4, .slice A4 n4 c4, .int .i64 e4, .bool g5, .slice A5 n5 c5, .int .i64 e5]] u (VTold u Q))) :
    Calls Tryd.prog 14 #[.agg #[.bool g1, .slice A1 n1 c1, .int .i64 e1, .bool g2, .slice A2 n2 c2, .int .i64 e2], .agg #[.bool g3, .slice A3 n3 c3, .int .i64 e3]] w (VTold w Q) := by
  have k0 := HoldX.start (g1 := g1) ( e1 := e1) ( g2 := g2) ( e2 := e2) ( g3 := g3) (e3 := e3) l1 l2 l3 hT
  have C1 : Hid (∀ u, HoldX w g1 A1 n1 c1 xs1 e1 g2 A2 n2 c2 xs2 e2 g3 A3 n3 c3 xs3 e3 u → Calls Tryd.prog 30 #[.agg #[.bool g3, .slice A3 n3 c3, .int .i64 e3]] u (UTold u (fun X Y => X = b ∧ Y = b))) := fun u hu => at15_l b g3 A3 n3 c3 xs3 e3 u hu.2.2.2.1.2.2.1 b3 hu.2.2.2.1.2.2.2 ho
  have C2 : Hid (∀ u g4 A4 n4 c4 xs4 e4 g5 A5 n5 c5 xs5 e5, HoldX w g1 A1 n1 c1 xs1 e1 g2 A2 n2 c2 xs2 e2 g3 A3 n3 c3 xs3 e3 u → (Lim u A4 n4 c4 xs4 ∧ Lim u A5 n5 c5 xs5 ∧ Bare xs4 ∧ Bare xs5 ∧ (⟨g4, val xs4, e4⟩ : Dy) = b ∧ (⟨g5, val xs5, e5⟩ : Dy) = b) → Calls Tryd.prog 13 #[.agg #[.bool g1, .slice A1 n1 c1, .int .i64 e1, .bool g2, .slice A2 n2 c2, .int .i64 e2], .agg #[.bool g4, .slice A4 n4 c4, .int .i64 e4, .bool g5, .slice A5 n5 c5, .int .i64 e5]] u (VTold u Q)) := fun u g4 A4 n4 c4 xs4 e4 g5 A5 n5 c5 xs5 e5 hu h => hM.out u _ _ _ _ _ _ _ _ _ _ _ _ hu.2.2.2.1.1 hu.2.2.2.1.2.1 hu.2.2.2.1.2.2.2 h.1 h.2.1 h.2.2.1 h.2.2.2.1 h.2.2.2.2.1 h.2.2.2.2.2
  have K0 := Lib.hid (k0.below (below_drew _))
  clear l1 l2 l3 hT k0 ho hM
  go_enter Tryd.func14, Tryd.ntmps14
  go_wp2_with fail
  have y := K0.out.cells
  go_region_held3 (fun u => u.cell? ⟨w.heap.size, 0, none⟩ = some (.bool g1) ∧ u.cell? ⟨w.heap.size, 1, none⟩ = some (.slice A1 n1 c1) ∧ u.cell? ⟨w.heap.size, 2, none⟩ = some (.int .i64 e1) ∧ u.cell? ⟨w.heap.size, 3, none⟩ = some (.bool g2) ∧ u.cell? ⟨w.heap.size, 4, none⟩ = some (.slice A2 n2 c2) ∧ u.cell? ⟨w.heap.size, 5, none⟩ = some (.int .i64 e2) ∧ u.cell? ⟨w.heap.size + 1, 0, none⟩ = some (.bool g3) ∧ u.cell? ⟨w.heap.size + 1, 1, none⟩ = some (.slice A3 n3 c3) ∧ u.cell? ⟨w.heap.size + 1, 2, none⟩ = some (.int .i64 e3)) (first | (with_reducible exact K0.out.cells) | (with_reducible exact K0.out.kept _ _ _ _ _ _ _ _ _ _))
    (first
      | (go_at_call 30; (with_reducible refine (C1.out _ K0.out).mono ?_); rintro e u1 ⟨g4, A4, n4, c4, xs4, e4, g5, A5, n5, c5, xs5, e5, rfl, hm4, hm5, hl4, hl5, hb4, hb5, hB1, hQ1⟩; replace K0 := Lib.hid (K0.out.below hB1); have H4 : Hid (Lim u1 A4 n4 c4 xs4 ∧ Lim u1 A5 n5 c5 xs5 ∧ Bare xs4 ∧ Bare xs5 ∧ (⟨g4, val xs4, e4⟩ : Dy) = b ∧ (⟨g5, val xs5, e5⟩ : Dy) = b) := ⟨hl4, hl5, hb4, hb5, hQ1.1, hQ1.2⟩; clear hl4 hl5 hb4 hb5 hB1 hQ1)
      | (go_at_call 13; (with_reducible refine (C2.out _ _ _ _ _ _ _ _ _ _ _ _ _ K0.out H4.out).mono ?_); rintro e u2 ⟨g6, A6, n6, c6, xs6, e6, g7, A7, n7, c7, xs7, e7, r, rfl, hm6, hm7, hl6, hl7, hb6, hb7, hB2, hQ2⟩; replace K0 := Lib.hid (K0.out.below hB2); have H6 : Hid (Lim u2 A6 n6 c6 xs6 ∧ Lim u2 A7 n7 c7 xs7 ∧ Bare xs6 ∧ Bare xs7 ∧ Q ⟨g6, val xs6, e6⟩ ⟨g7, val xs7, e7⟩ r n6 n7) := ⟨hl6, hl7, hb6, hb7, hQ2⟩; clear hl6 hl7 hb6 hb7 hB2 hQ2; have z0 := K0.out.2.2.1.x0; have z1 := K0.out.2.2.1.x1; have z2 := K0.out.2.2.1.x2; have z3 := K0.out.2.2.1.x3; have z4 := K0.out.2.2.1.x4; have z5 := K0.out.2.2.1.x5; have zf := K0.out.2.2.1.fz))
  all_goals (
    have Hfin : Hid (VTold w Q (.returned (.tuple #[.agg #[.bool g6, .slice A6 n6 c6, .int .i64 e6, .bool g7, .slice A7 n7 c7, .int .i64 e7], .int .i64 r])) (World.put6 u2 (w.heap.size + 1 + 1) g6 A6 n6 c6 e6 g7 A7 n7 c7 e7)) := ⟨g6, A6, n6, c6, xs6, e6, g7, A7, n7, c7, xs7, e7, r, rfl, hm6, hm7, K0.out.2.2.1.lim H6.out.1 _ _ _ _ _ _ _ _ _ _, K0.out.2.2.1.lim H6.out.2.1 _ _ _ _ _ _ _ _ _ _, H6.out.2.2.1, H6.out.2.2.2.1, below_put6 K0.out.2.2.2.2 (by omega) _ _ _ _ _ _ _ _ _ _, H6.out.2.2.2.2⟩
    have u0 := K0.out.2.2.1.put g6 A6 n6 c6 e6 g7 A7 n7 c7 e7
    have v0 := u0.x0
    have v1 := u0.x1
    have v2 := u0.x2
    have v3 := u0.x3
    have v4 := u0.x4
    have v5 := u0.x5
    clear K0 C1 C2 H4 H6 u0
    go_wp2
    exact bodyPost_ret (v := .tuple #[.agg #[.bool g6, .slice A6 n6 c6, .int .i64 e6, .bool g7, .slice A7 n7 c7, .int .i64 e7], .int .i64 r]) (by simp [results, Tryd.results14, go_sem, v0, v1, v2, v3, v4, v5]) rfl Hfin.out)
end Go.Proofs.YtafgooiakmmfkaaDoor
