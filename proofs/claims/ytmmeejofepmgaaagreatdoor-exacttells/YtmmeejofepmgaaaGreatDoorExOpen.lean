/- From what the form reads to what the walks ask: an exponent (two int64) that came in. -/
import Derived.Test.YtmmeejofepmgaaaGreatDoorK1
import Derived.Lib.SmallJoins
import Derived.OpenShut
namespace Go.Proofs.YtmmeejofepmgaaaGreatDoor
open Go.ChangeShapes Go.WideShapes Go.ChangeAt Go.RowKit Go.Joins

theorem cellsQe : Tryz.prog.cellsOf 26 = 2 := by kernel_rfl

set_option maxRecDepth 20000 in
theorem quot_of_trod {H : Type} {enc : TypeId × Value → H} {W : World} {base : Nat} {v : Value} {d : DataW H} {p : List MemPlace}
    (hv : Value.okWide Tryz.prog W .any base 26 v) (h : DataW.Trod enc Tryz.prog W 0 (fun _ => true) true 26 v d p) :
    ∃ (M K : Int), v = .agg #[.int .i64 M, .int .i64 K] ∧ (-9223372036854775808 ≤ M ∧ M ≤ 9223372036854775807) ∧ (-9223372036854775808 ≤ K ∧ K ≤ 9223372036854775807) := by
  obtain ⟨v0, v1, y0, y1, m, rfl, rfl, rfl, hy0, hy1⟩ := open_agg2 Tryz.underlying26 (by kernel_rfl) cellsQe hv h
  obtain ⟨M, e0, _, b0⟩ := DataW.trod_int Tryz.underlying2 hy0
  obtain ⟨K, e1, _, b1⟩ := DataW.trod_int Tryz.underlying2 hy1
  simp at e0 e1
  subst e0 e1
  exact ⟨M, K, rfl, bounds_i64 b0, bounds_i64 b1⟩
end Go.Proofs.YtmmeejofepmgaaaGreatDoor
