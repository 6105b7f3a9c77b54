/- What the law SeriesScales rests on: the contract of series.Within; an interval in its block. -/
import Derived.Test.YtngldpmnbdgkiaaDoorSrAlive
import Derived.Test.YtngldpmnbdgkiaaDoorSrAddsM
import Derived.Test.YtngldpmnbdgkiaaDoorSrTo
import Derived.Test.YtngldpmnbdgkiaaDoorK2
namespace Go.Proofs.YtngldpmnbdgkiaaDoor
open Go.RowKit

/-- What Within tells: both ends as dyads. -/
def WithTold (w : World) (g : Bool) (V U : Nat) (s : Int) (e : Ending) (w' : World) : Prop := ∃ g1 A1 m1 c1 zs e1 g2 A2 m2 c2 us e2, e = .returned (.agg #[.bool g1, .slice A1 m1 c1, .int .i64 e1, .bool g2, .slice A2 m2 c2, .int .i64 e2]) ∧ m1 ≤ 300 ∧ m2 ≤ 300 ∧ Lim w' A1 m1 c1 zs ∧ Lim w' A2 m2 c2 us ∧ Bare zs ∧ Bare us ∧ Below w.heap.size w w' ∧
    mk g V (-s) = some ⟨g1, val zs, e1⟩ ∧ mk g U (-s) = some ⟨g2, val us, e2⟩
/-- The contract of series.Within: the lesser one ahead. -/
def WithinMeets : Prop := ∀ (A : Option Addr) (n c : Nat) (xs : List Nat) (B : Option Addr) (m d : Nat) (ys : List Nat) (s : Int) (g : Bool) (w : World), Lim w A n c xs → Lim w B m d ys → n ≤ 250 → m ≤ 250 → Tab w → 8 ≤ s → s ≤ 9000 → val xs ≤ val ys →
  Calls Tryd.prog 26 #[.slice A n c, .slice B m d, .int .i64 s, .bool g] w (WithTold w g (val (if g then ys else xs)) (val (if g then xs else ys)) s)

/-- An interval in its block. -/
def Ib (w : World) (b : Nat) (g1 : Bool) (A1 : Option Addr) (m1 c1 : Nat) (e1 : Int) (g2 : Bool) (A2 : Option Addr) (m2 c2 : Nat) (e2 : Int) : Prop :=
  w.heap[b]? = some (.cells #[.bool g1, .slice A1 m1 c1, .int .i64 e1, .bool g2, .slice A2 m2 c2, .int .i64 e2] 48)
section
variable {w w' : World} {b : Nat} {g1 : Bool} {A1 : Option Addr} {m1 c1 : Nat} {e1 : Int} {g2 : Bool} {A2 : Option Addr} {m2 c2 : Nat} {e2 : Int}
theorem Ib.lt (h : Ib w b g1 A1 m1 c1 e1 g2 A2 m2 c2 e2) : b < w.heap.size := by
  rcases Nat.lt_or_ge b w.heap.size with h' | h'
  · exact h'
  · rw [Ib, Array.getElem?_eq_none h'] at h; cases h
theorem Ib.new (w : World) (g1 : Bool) (A1 : Option Addr) (m1 c1 : Nat) (e1 : Int) (g2 : Bool) (A2 : Option Addr) (m2 c2 : Nat) (e2 : Int) : Ib (w.alloc (.cells #[.bool g1, .slice A1 m1 c1, .int .i64 e1, .bool g2, .slice A2 m2 c2, .int .i64 e2] 48)) w.heap.size g1 A1 m1 c1 e1 g2 A2 m2 c2 e2 := by
  show (w.heap.push _)[w.heap.size]? = _
  simp
theorem Ib.below (h : Ib w b g1 A1 m1 c1 e1 g2 A2 m2 c2 e2) (hb : Below w.heap.size w w') : Ib w' b g1 A1 m1 c1 e1 g2 A2 m2 c2 e2 := by
  rw [Ib, hb.block b h.lt]; exact h
theorem Ib.x0 (h : Ib w b g1 A1 m1 c1 e1 g2 A2 m2 c2 e2) : w.cell? ⟨b, 0, none⟩ = some (.bool g1) := by simp [World.cell?, show w.heap[b]? = _ from h]
theorem Ib.x1 (h : Ib w b g1 A1 m1 c1 e1 g2 A2 m2 c2 e2) : w.cell? ⟨b, 1, none⟩ = some (.slice A1 m1 c1) := by simp [World.cell?, show w.heap[b]? = _ from h]
theorem Ib.x2 (h : Ib w b g1 A1 m1 c1 e1 g2 A2 m2 c2 e2) : w.cell? ⟨b, 2, none⟩ = some (.int .i64 e1) := by simp [World.cell?, show w.heap[b]? = _ from h]
theorem Ib.x3 (h : Ib w b g1 A1 m1 c1 e1 g2 A2 m2 c2 e2) : w.cell? ⟨b, 3, none⟩ = some (.bool g2) := by simp [World.cell?, show w.heap[b]? = _ from h]
theorem Ib.x4 (h : Ib w b g1 A1 m1 c1 e1 g2 A2 m2 c2 e2) : w.cell? ⟨b, 4, none⟩ = some (.slice A2 m2 c2) := by simp [World.cell?, show w.heap[b]? = _ from h]
theorem Ib.x5 (h : Ib w b g1 A1 m1 c1 e1 g2 A2 m2 c2 e2) : w.cell? ⟨b, 5, none⟩ = some (.int .i64 e2) := by simp [World.cell?, show w.heap[b]? = _ from h]
end

/-- What is told is short. -/
theorem at_short {X Y s lo hi : Nat} (hY : Y ≠ 0) (h3 : 3 * X ≤ Y) (h : AtB X Y s lo hi) : lo ≤ 2 ^ s := by
  obtain ⟨x, hx⟩ := frac_of (X := X) hY
  obtain ⟨x0, x1⟩ := frac_bd hY h3 hx
  obtain ⟨⟨c, h1⟩, _⟩ := h x hx
  obtain ⟨y0, y1⟩ := third x0 x1
  have b := (hh_bd y0 y1 c 0).2
  have b1 := rmul_le b x0
  have P0 := rnat_nonneg (2 ^ s)
  have a1 : atS x c ≤ 1 := by unfold atS; grind
  have := rmul_le a1 P0
  refine cast_le ?_
  grind
theorem sz_le {a b : Nat} (h : a ≤ b) (e : Int) : sz a e ≤ sz b e := Nat.mul_le_mul_right _ h
/-- In order. -/
theorem within_ord {g : Bool} {a b : Nat} {E : Int} {d1 d2 : Dy} (hab : a ≤ b) (h1 : mk g (if g then b else a) E = some d1) (h2 : mk g (if g then a else b) E = some d2) : cmpI (dw d1.neg d1.V d1.e) (dw d2.neg d2.V d2.e) ≤ 0 := by
  rw [(mk_fine h1).2.1, (mk_fine h2).2.1]
  have hs := sz_le hab E
  have : dw g (if g then b else a) E ≤ dw g (if g then a else b) E := by
    cases g
    · show ((sz a E : Nat) : Int) ≤ (sz b E : Int)
      omega
    · show -((sz b E : Nat) : Int) ≤ -(sz a E : Int)
      omega
  rcases Int.lt_or_eq_of_le this with h | h
  · rw [cmpI_lt h]; decide
  · rw [cmpI_eq h]; decide
theorem ib_below (w : World) (o1 o2 : Obj) : Below w.heap.size w ((w.alloc o1).alloc o2) := ((Below.refl _ _).alloc (Nat.le_refl _) o1).alloc (by simp) o2
/-- Two numbers laid into new blocks. -/
theorem laid_two (w : World) (t : Nat) (g : Bool) (A : Option Addr) (n c : Nat) (E : Int) (B : Option Addr) (m d : Nat) :
    Below w.heap.size w ((w.alloc (.cells #[.bool g, .slice A n c, .int .i64 E] t)).alloc (.cells #[.bool g, .slice B m d, .int .i64 E] t)) ∧
    Bd ((w.alloc (.cells #[.bool g, .slice A n c, .int .i64 E] t)).alloc (.cells #[.bool g, .slice B m d, .int .i64 E] t)) w.heap.size t g A n c E ∧
    Bd ((w.alloc (.cells #[.bool g, .slice A n c, .int .i64 E] t)).alloc (.cells #[.bool g, .slice B m d, .int .i64 E] t)) (w.heap.size + 1) t g B m d E := by
  have b1 := (Bd.new w t g A n c E).alloc (.cells #[.bool g, .slice B m d, .int .i64 E] t)
  have b2 := Bd.new (w.alloc (.cells #[.bool g, .slice A n c, .int .i64 E] t)) t g B m d E
  rw [World.size_alloc] at b2
  exact ⟨ib_below w _ _, b1, b2⟩
end Go.Proofs.YtngldpmnbdgkiaaDoor
