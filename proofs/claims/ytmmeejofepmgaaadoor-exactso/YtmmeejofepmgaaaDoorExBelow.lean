/- The document's powers by comparisons alone: planimeterref11.Below. -/
import Derived.Test.YtmmeejofepmgaaaDoorExLow
import Derived.Test.YtmmeejofepmgaaaDoorK5
import Derived.Test.YtmmeejofepmgaaaDoorK4
import Derived.Deep.Cut
namespace Go.Proofs.YtmmeejofepmgaaaDoor
open Go.RowKit

/-- While it is walked: the number in its box. -/
theorem HoldL.tri {w : World} {b : Nat} {g : Bool} {A : Option Addr} {n c : Nat} {ds : List Nat} {e0 : Int} {u : World} (h : HoldL w b g A n c ds e0 u) : u.cell? ⟨b, 0, none⟩ = some (.bool g) ∧ u.cell? ⟨b, 1, none⟩ = some (.slice A n c) ∧ u.cell? ⟨b, 2, none⟩ = some (.int .i64 e0) := h.three

/-- What is asked of a power: that it can be held against all bits. -/
def NearP (V : Nat) (E i : Int) (k : Nat) : Prop := 1 ≤ V ∧ 1 ≤ k ∧ k ≤ 40 ∧ -60 ≤ i ∧ i ≤ 60 ∧ blen V * i.natAbs ≤ 1500 ∧ -2000 ≤ E ∧ E ≤ 2000
theorem NearP.e {V : Nat} {E i : Int} {k : Nat} (h : NearP V E i k) : E.natAbs * i.natAbs ≤ 200000 := by
  obtain ⟨_, _, _, h1, h2, _, h3, h4⟩ := h
  have := Nat.mul_le_mul (show E.natAbs ≤ 2000 by omega) (show i.natAbs ≤ 60 by omega)
  omega

theorem vO_blen {b : Nat} (hb : b ≤ 9218868437227405312) : blen (vO b).V ≤ 60 := by
  have h := (vO_facts hb).2.2.2.2.1
  have : blen (vO b).V ≤ 53 := blen_le_iff.2 h
  omega


end Go.Proofs.YtmmeejofepmgaaaDoor
