/- From what the form reads to what the walk of BudgetPlays asks: a list of calls that came in. -/
import Derived.Test.YtckakdhjnejgmaaBgOpen
import Derived.Deep.SlicePairs
namespace Go.Proofs.Ytckakdhjnejgmaa
open Go.ChangeShapes Go.WideShapes Go.ChangeAt Go.RowKit Go.Deep

/-- The slice value '.slice A n c' holds n calls: kinds K, numbers N. -/
def Acts (w : World) (A : Option Addr) (n c : Nat) (KN : (Nat → Int) × (Nat → Int)) : Prop :=
  n ≤ c ∧ (0 < n → ∃ b o, A = some ⟨b, o, none⟩ ∧ b < w.heap.size ∧ ∀ j, j < n → w.cell? ⟨b, o + j * 2, none⟩ = some (.int .i64 (KN.1 j)) ∧ w.cell? ⟨b, o + j * 2 + 1, none⟩ = some (.int .i64 (KN.2 j)))
theorem Acts.below {w w' : World} {A : Option Addr} {n c : Nat} {KN : (Nat → Int) × (Nat → Int)} (h : Acts w A n c KN) (hb : Below w.heap.size w w') : Acts w' A n c KN :=
  ⟨h.1, fun hn => by
    obtain ⟨b, o, e, hlt, hc⟩ := h.2 hn
    exact ⟨b, o, e, Nat.lt_of_lt_of_le hlt hb.size, fun j hj => ⟨(hb.cell (p := ⟨b, o + j * 2, none⟩) hlt).trans (hc j hj).1, (hb.cell (p := ⟨b, o + j * 2 + 1, none⟩) hlt).trans (hc j hj).2⟩⟩⟩

theorem add_plain (b o k : Nat) : (⟨b, o, none⟩ : Addr).add k = ⟨b, o + k, none⟩ := by
  unfold Addr.add
  split
  · rename_i h; subst h; rfl
  · rfl
theorem cellsAct : Try.prog.cellsOf 33 = 2 := by kernel_rfl
theorem cellsInt17 : Try.prog.cellsOf 3 = 1 := by kernel_rfl

theorem acts_of_trod {H : Type} {enc : TypeId × Value → H} {W : World} {a : Option Addr} {len cap : Nat} {d : DataW H} {p : List MemPlace}
    (h : DataW.Trod enc Try.prog W 0 (fun _ => true) true 22 (.slice a len cap) d p) : ∃ KN, Acts W a len cap KN ∧ len ≤ 9223372036854775807 := by
  obtain ⟨fuel, hf⟩ := h
  rcases open_slice_pairs Try.underlying22 Try.underlying33 cellsAct rfl rfl cellsInt17 cellsInt17 hf with ⟨hcs, _⟩ | ⟨x, l, c, m, n, V0, V1, D0, D1, P0, P1, hcs, _, hl, hm, hmm, _, hcell⟩
  · simp [Value.cells] at hcs
    obtain ⟨rfl, rfl, rfl⟩ := hcs
    exact ⟨(fun _ => 0, fun _ => 0), ⟨Nat.le_refl _, fun hn => absurd hn (by omega)⟩, by omega⟩
  · simp [Value.cells] at hcs
    obtain ⟨rfl, rfl, rfl⟩ := hcs
    unfold maxLen at hm
    have hm' : m = cap := by simpa using hmm
    subst hm'
    have h0 : ∀ j, j < len → ∃ z : Int, V0 j = .int .i64 z := fun j hj => by
      obtain ⟨z, hz, _⟩ := DataW.trod_int Try.underlying3 (hcell j (by omega)).2.2.1
      exact ⟨z, by simpa using hz⟩
    have h1 : ∀ j, j < len → ∃ z : Int, V1 j = .int .i64 z := fun j hj => by
      obtain ⟨z, hz, _⟩ := DataW.trod_int Try.underlying3 (hcell j (by omega)).2.2.2
      exact ⟨z, by simpa using hz⟩
    refine ⟨(fun j => match V0 j with | .int _ z => z | _ => 0, fun j => match V1 j with | .int _ z => z | _ => 0), ⟨hl, fun hn => ?_⟩, by omega⟩
    obtain ⟨b, off, spot⟩ := x
    have hc0 := (hcell 0 (by omega)).1
    have hspot : spot = none := by simpa [Addr.add] using World.cell?_spot hc0
    subst hspot
    have hblk : b < W.heap.size := by
      have := World.block_lt_of_cell? _ _ hc0
      simpa [Addr.add] using this
    refine ⟨b, off, rfl, hblk, fun j hj => ?_⟩
    obtain ⟨z0, e0⟩ := h0 j hj
    obtain ⟨z1, e1⟩ := h1 j hj
    have hc := hcell j (by omega)
    rw [add_plain, add_plain, e0, e1] at hc
    simp only [e0, e1]
    exact ⟨hc.1, by have := hc.2.1; rwa [← Nat.add_assoc] at this⟩
end Go.Proofs.Ytckakdhjnejgmaa
