/- From what the form reads to what the walks ask: a dyad that came in. -/
import Derived.Test.YtgacafdkhailmaaDoorOpen
import Derived.Lib.SmallJoins
namespace Go.Proofs.YtgacafdkhailmaaDoor
open Go.ChangeShapes Go.WideShapes Go.ChangeAt Go.RowKit Go.Joins

theorem cellsDy : Tryd.prog.cellsOf 41 = 3 := by kernel_rfl

set_option maxRecDepth 20000 in
theorem dyad_of_trod {H : Type} {enc : TypeId × Value → H} {W : World} {base : Nat} {v : Value} {d : DataW H} {p : List MemPlace}
    (hv : Value.okWide Tryd.prog W .any base 41 v) (h : DataW.Trod enc Tryd.prog W 0 (fun _ => true) true 41 v d p) :
    ∃ (g : Bool) (A : Option Addr) (n c : Nat) (e : Int) (xs : List Nat), v = .agg #[.bool g, .slice A n c, .int .i64 e] ∧ Lim W A n c xs := by
  obtain ⟨v0, v1, v2, y0, y1, y2, m, rfl, rfl, rfl, hy0, hy1, hy2⟩ := open_agg3 Tryd.underlying41 (by kernel_rfl) cellsDy hv h
  obtain ⟨g, e0, _⟩ := DataW.trod_bool Tryd.underlying4 hy0
  obtain ⟨e, e2, _⟩ := DataW.trod_int Tryd.underlying3 hy2
  obtain ⟨A, n, c, e1⟩ := slice_form Tryd.underlying26 hy1
  simp at e0 e1 e2
  subst e0 e1 e2
  have h1 : DataW.Trod enc Tryd.prog W 0 (fun _ => true) true 26 (.slice A n c) y1.1 y1.2 := ⟨m, by simpa [Value.cells] using hy1⟩
  obtain ⟨xs, hx, _⟩ := lim_of_trod h1
  exact ⟨g, A, n, c, e, xs, rfl, hx⟩
end Go.Proofs.YtgacafdkhailmaaDoor
