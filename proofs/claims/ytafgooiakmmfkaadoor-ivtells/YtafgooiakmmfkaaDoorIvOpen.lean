/- From what the form reads to what the walks of layer 15 ask: a pair of dyads that came in. -/
import Derived.Test.YtafgooiakmmfkaaDoorK2
namespace Go.Proofs.YtafgooiakmmfkaaDoor
open Go.ChangeShapes Go.WideShapes Go.ChangeAt Go.RowKit Go.Joins Go.Deep

theorem cellsJ15 : Tryd.prog.cellsOf 26 = 6 := by kernel_rfl
theorem cellsD15 : Tryd.prog.cellsOf 24 = 3 := by kernel_rfl
theorem array6 {α : Type} {cs : Array α} (h : cs.size = 6) : ∃ a b c d e f, cs = #[a, b, c, d, e, f] := by
  obtain ⟨l⟩ := cs
  have hl : l.length = 6 := h
  match l, hl with
  | [a, b, c, d, e, f], _ => exact ⟨a, b, c, d, e, f, rfl⟩
set_option maxRecDepth 20000 in
theorem dyad3_of_trod {H : Type} {enc : TypeId × Value → H} {W : World} {n : Nat} {c0 c1 c2 : Value} {y : DataW H × List MemPlace}
    (h : DataW.trod enc Tryd.prog W 0 (fun _ => true) true n 24 [c0, c1, c2] = some y) :
    ∃ (g : Bool) (A : Option Addr) (k c : Nat) (e : Int) (xs : List Nat), c0 = .bool g ∧ c1 = .slice A k c ∧ c2 = .int .i64 e ∧ Lim W A k c xs := by
  obtain ⟨y0, y1, y2, m, _, _, h0, h1, h2⟩ := trod_struct3 Tryd.underlying24 h
  have k0 : Tryd.prog.cellsOf 4 = 1 := by kernel_rfl
  have k1 : Tryd.prog.cellsOf 22 = 1 := by kernel_rfl
  have k2 : Tryd.prog.cellsOf 3 = 1 := by kernel_rfl
  dsimp only at h0 h1 h2
  rw [k0] at h0
  rw [k1] at h1
  rw [k2] at h2
  have hy0 : DataW.trod enc Tryd.prog W 0 (fun _ => true) true m 4 [c0] = some y0 := h0
  have hy1 : DataW.trod enc Tryd.prog W 0 (fun _ => true) true m 22 [c1] = some y1 := h1
  have hy2 : DataW.trod enc Tryd.prog W 0 (fun _ => true) true m 3 [c2] = some y2 := h2
  obtain ⟨g, e0, _⟩ := DataW.trod_bool Tryd.underlying4 hy0
  obtain ⟨e, e2, _⟩ := DataW.trod_int Tryd.underlying3 hy2
  obtain ⟨A, k, c, e1⟩ := slice_form Tryd.underlying22 hy1
  simp at e0 e1 e2
  subst e0 e1 e2
  have h1' : DataW.Trod enc Tryd.prog W 0 (fun _ => true) true 22 (.slice A k c) y1.1 y1.2 := ⟨m, by simpa [Value.cells] using hy1⟩
  obtain ⟨xs, hx, _⟩ := lim_of_trod h1'
  exact ⟨g, A, k, c, e, xs, rfl, rfl, rfl, hx⟩
set_option maxRecDepth 20000 in
theorem pair_of_trod {H : Type} {enc : TypeId × Value → H} {W : World} {base : Nat} {v : Value} {d : DataW H} {p : List MemPlace}
    (hv : Value.okWide Tryd.prog W .any base 26 v) (h : DataW.Trod enc Tryd.prog W 0 (fun _ => true) true 26 v d p) :
    ∃ (g1 : Bool) (A1 : Option Addr) (n1 c1 : Nat) (e1 : Int) (xs1 : List Nat) (g2 : Bool) (A2 : Option Addr) (n2 c2 : Nat) (e2 : Int) (xs2 : List Nat), v = .agg #[.bool g1, .slice A1 n1 c1, .int .i64 e1, .bool g2, .slice A2 n2 c2, .int .i64 e2] ∧ Lim W A1 n1 c1 xs1 ∧ Lim W A2 n2 c2 xs2 := by
  obtain ⟨cs, rfl, hsz⟩ := okWide_struct Tryd.underlying26 hv
  obtain ⟨a, b, c, x, y, z, rfl⟩ := array6 (hsz.trans cellsJ15)
  obtain ⟨fuel, hf⟩ := h
  obtain ⟨y0, y1, n, _, _, h0, h1⟩ := trod_struct2 Tryd.underlying26 hf
  dsimp only at h0 h1
  rw [cellsD15] at h0 h1
  have h0' : DataW.trod enc Tryd.prog W 0 (fun _ => true) true n 24 [a, b, c] = some y0 := h0
  have h1' : DataW.trod enc Tryd.prog W 0 (fun _ => true) true n 24 [x, y, z] = some y1 := h1
  obtain ⟨g1, A1, n1, c1, e1, xs1, rfl, rfl, rfl, l1⟩ := dyad3_of_trod h0'
  obtain ⟨g2, A2, n2, c2, e2, xs2, rfl, rfl, rfl, l2⟩ := dyad3_of_trod h1'
  exact ⟨g1, A1, n1, c1, e1, xs1, g2, A2, n2, c2, e2, xs2, rfl, l1, l2⟩
end Go.Proofs.YtafgooiakmmfkaaDoor
