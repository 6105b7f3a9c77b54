/- The walk of the law ExactTells (written by law_etells.py). -/
import Derived.Test.YtmmeejofepmgaaaDoorExLaw
import Derived.Test.YtmmeejofepmgaaaDoorK5
namespace Go.Proofs.YtmmeejofepmgaaaDoor
open Go.RowKit

/-- An exponent in a block of its own. -/
def Qb (w : World) (b : Nat) (M K : Int) : Prop := w.heap[b]? = some (.cells #[.int .i64 M, .int .i64 K] 26)
section
variable {w w' : World} {b : Nat} {M K : Int}
theorem Qb.lt (h : Qb w b M K) : b < w.heap.size := by
  rcases Nat.lt_or_ge b w.heap.size with h' | h'
  · exact h'
  · rw [Qb, Array.getElem?_eq_none h'] at h; cases h
theorem Qb.new (w : World) (M K : Int) : Qb (w.alloc (.cells #[.int .i64 M, .int .i64 K] 26)) w.heap.size M K := by
  show (w.heap.push _)[w.heap.size]? = _
  simp
theorem Qb.below (h : Qb w b M K) (hb : Below w.heap.size w w') : Qb w' b M K := by
  rw [Qb, hb.block b h.lt]; exact h
theorem Qb.c0 (h : Qb w b M K) : w.cell? ⟨b, 0, none⟩ = some (.int .i64 M) := by simp [World.cell?, show w.heap[b]? = _ from h]
theorem Qb.c1 (h : Qb w b M K) : w.cell? ⟨b, 1, none⟩ = some (.int .i64 K) := by simp [World.cell?, show w.heap[b]? = _ from h]
end
theorem lim_nil11 {w : World} {A : Option Addr} {n c : Nat} {xs : List Nat} (h : Lim w A n c xs) (hb : Bare xs) (hv : val xs = 0) : n = 0 := by
  have h1 : xs = [] := bare_eq h.words Words.nil hb rfl (by rw [hv]; rfl)
  rw [← h.len, h1]; rfl
theorem mk_if11 {g : Bool} {V : Nat} {e : Int} {d : Dy} (h : nO g V e = d) : mk g V e = if -1073741824 ≤ d.e ∧ d.e ≤ 1073741824 then some d else none := by
  rw [mk_nO, h]
  have ho := nO_odd g V e
  rw [h] at ho
  unfold toldD
  rcases ho with ⟨k, hk⟩ | ho
  · rw [if_neg (by omega)]
    by_cases h1 : -1073741824 ≤ d.e ∧ d.e ≤ 1073741824
    · rw [if_pos h1, if_neg (by omega)]
    · rw [if_neg h1, if_pos (by omega)]
  · subst ho; rfl

/-- While the law is walked: the dyad and the exponent in their boxes, the document's number, the power. -/
def HoldE (w : World) (g : Bool) (A : Option Addr) (n c : Nat) (xs : List Nat) (e0 M K : Int) (pn : Nat) (g1 : Bool) (A1 : Option Addr) (m1 c1 : Nat) (E1 : Int) (V1 : Nat) (es1 : List Nat) (pp : Nat) (pg : Bool) (A2 : Option Addr) (m2 c2 : Nat) (pE : Int) (zs : List Nat) (u : World) : Prop :=
  Bd u w.heap.size 24 g A n c e0 ∧ Qb u (w.heap.size + 1) M K ∧ Bd u pn 30 g1 A1 m1 c1 E1 ∧ Bd u pp 35 pg A2 m2 c2 pE ∧ Lim u A n c xs ∧ Mg u V1 A1 m1 c1 es1 ∧ Lim u A2 m2 c2 zs ∧ Tab u ∧ Below w.heap.size w u
section
variable {w : World} {g : Bool} {A : Option Addr} {n c : Nat} {xs : List Nat} {e0 M K : Int} {pn : Nat} {g1 : Bool} {A1 : Option Addr} {m1 c1 : Nat} {E1 : Int} {V1 : Nat} {es1 : List Nat} {pp : Nat} {pg : Bool} {A2 : Option Addr} {m2 c2 : Nat} {pE : Int} {zs : List Nat} {u u' : World}
theorem HoldE.below (q : HoldE w g A n c xs e0 M K pn g1 A1 m1 c1 E1 V1 es1 pp pg A2 m2 c2 pE zs u) (hb : Below u.heap.size u u') : HoldE w g A n c xs e0 M K pn g1 A1 m1 c1 E1 V1 es1 pp pg A2 m2 c2 pE zs u' := by
  obtain ⟨h1, h2, h3, h4, h5, h6, h7, h8, h9⟩ := q
  exact ⟨h1.below hb, h2.below hb, h3.below hb, h4.below hb, h5.below hb, h6.below hb, h7.below hb, h8.below hb, h9.trans (hb.mono h9.size)⟩
theorem HoldE.mg (q : HoldE w g A n c xs e0 M K pn g1 A1 m1 c1 E1 V1 es1 pp pg A2 m2 c2 pE zs u) : Mg u V1 A1 m1 c1 es1 := q.2.2.2.2.2.1
theorem HoldE.l2 (q : HoldE w g A n c xs e0 M K pn g1 A1 m1 c1 E1 V1 es1 pp pg A2 m2 c2 pE zs u) : Lim u A2 m2 c2 zs := q.2.2.2.2.2.2.1
theorem HoldE.tab_ (q : HoldE w g A n c xs e0 M K pn g1 A1 m1 c1 E1 V1 es1 pp pg A2 m2 c2 pE zs u) : Tab u := q.2.2.2.2.2.2.2.1
theorem HoldE.old (q : HoldE w g A n c xs e0 M K pn g1 A1 m1 c1 E1 V1 es1 pp pg A2 m2 c2 pE zs u) : Below w.heap.size w u := q.2.2.2.2.2.2.2.2
end




end Go.Proofs.YtmmeejofepmgaaaDoor
