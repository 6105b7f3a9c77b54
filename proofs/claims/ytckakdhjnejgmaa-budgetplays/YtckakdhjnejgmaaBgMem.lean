/- Words for a budget in memory: its box, its channel; what turns nothing else. -/
import Derived.Test.YtckakdhjnejgmaaLSel
import Derived.WalkKit
import Derived.Below
import Derived.Lib.Hide
import Derived.Deep.Draws
namespace Go.Proofs.Ytckakdhjnejgmaa
open Go.Conc Go.RowKit

/-- The budget whose box is block b and whose channel is block c: at most so many tokens, so many there, open or not. -/
def Bud (w : World) (b c most left : Nat) (op : Bool) : Prop :=
  b ≠ c ∧ w.heap[b]? = some (.cells #[.chan (some c), .bool (!op)] 42) ∧ left ≤ most ∧ ∃ (buf : Array Value) (s r : Nat), buf.size = left ∧ w.heap[c]? = some (.chan most buf false s r false)

/-- Nothing but blocks b and c has turned. -/
def Ours (b c : Nat) (w w' : World) : Prop := w'.os = w.os ∧ w'.tape = w.tape ∧ w'.output = w.output ∧ w'.heap.size = w.heap.size ∧ ∀ k, k ≠ b → k ≠ c → w'.heap[k]? = w.heap[k]?

theorem Ours.refl (b c : Nat) (w : World) : Ours b c w w := ⟨rfl, rfl, rfl, rfl, fun _ _ _ => rfl⟩
theorem Ours.trans {b c : Nat} {u v w : World} (h : Ours b c u v) (h' : Ours b c v w) : Ours b c u w :=
  ⟨h'.1.trans h.1, h'.2.1.trans h.2.1, h'.2.2.1.trans h.2.2.1, h'.2.2.2.1.trans h.2.2.2.1, fun k hb hc => (h'.2.2.2.2 k hb hc).trans (h.2.2.2.2 k hb hc)⟩
theorem Ours.below {b c B : Nat} {a w w' : World} (h : Ours b c w w') (ha : Below B a w) (hb : B ≤ b) (hc : B ≤ c) : Below B a w' :=
  ha.trans ⟨h.1, h.2.1, h.2.2.1, Nat.le_of_eq h.2.2.2.1.symm, fun k hk => h.2.2.2.2 k (by omega) (by omega)⟩
theorem Ours.setChan {b c : Nat} {u w : World} (h : Ours b c u w) (cap : Nat) (buf : Array Value) (cl : Bool) (s r : Nat) (tm : Bool) : Ours b c u (w.setChan c cap buf cl s r tm) :=
  h.trans ⟨rfl, rfl, rfl, size_setChan .., fun k _ hc => by simp only [World.setChan]; rw [Array.getElem?_setIfInBounds_ne (fun e => hc e.symm)]⟩
theorem Ours.setCell {b c : Nat} {u w : World} (h : Ours b c u w) (o : Nat) (v : Value) : Ours b c u (w.setCell ⟨b, o, none⟩ v) :=
  h.trans ⟨rfl, rfl, rfl, by simp [World.setCell], fun k hb _ => Below.heap_setCell _ _ _ _ hb⟩

section
variable {w w' : World} {b c most left : Nat} {op : Bool}
theorem Bud.c0 (h : Bud w b c most left op) : w.cell? ⟨b, 0, none⟩ = some (.chan (some c)) := by simp [World.cell?, h.2.1]
theorem Bud.c1 (h : Bud w b c most left op) : w.cell? ⟨b, 1, none⟩ = some (.bool (!op)) := by simp [World.cell?, h.2.1]
theorem Bud.fz (h : Bud w b c most left op) (o : Nat) : w.frozen? ⟨b, o, none⟩ = false := by simp [World.frozen?, h.2.1]
theorem Bud.ltb (h : Bud w b c most left op) : b < w.heap.size := by
  rcases Nat.lt_or_ge b w.heap.size with h' | h'
  · exact h'
  · have := h.2.1; rw [Array.getElem?_eq_none h'] at this; cases this
theorem Bud.ltc (h : Bud w b c most left op) : c < w.heap.size := by
  obtain ⟨_, _, _, _, _, _, _, hc⟩ := h
  rcases Nat.lt_or_ge c w.heap.size with h' | h'
  · exact h'
  · rw [Array.getElem?_eq_none h'] at hc; cases hc
theorem Bud.le (h : Bud w b c most left op) : left ≤ most := h.2.2.1
theorem Bud.keep (h : Bud w b c most left op) (hb : w'.heap[b]? = w.heap[b]?) (hc : w'.heap[c]? = w.heap[c]?) : Bud w' b c most left op := by
  obtain ⟨h1, h2, h3, buf, s, r, h4, h5⟩ := h
  exact ⟨h1, hb.trans h2, h3, buf, s, r, h4, hc.trans h5⟩
theorem Bud.below (h : Bud w b c most left op) (hb : Below w.heap.size w w') : Bud w' b c most left op := h.keep (hb.block b h.ltb) (hb.block c h.ltc)
theorem Bud.drewN (h : Bud w b c most left op) (k : Nat) : Bud (w.drewN k) b c most left op := h
theorem Bud.ours (h : Bud w b c most left op) {b' c' : Nat} (ho : Ours b' c' w w') (h1 : b ≠ b') (h2 : b ≠ c') (h3 : c ≠ b') (h4 : c ≠ c') : Bud w' b c most left op :=
  h.keep (ho.2.2.2.2 b h1 h2) (ho.2.2.2.2 c h3 h4)
/-- The channel turned: so many lie there now. -/
theorem Bud.chan (h : Bud w b c most left op) (buf : Array Value) (s r : Nat) (hl : buf.size ≤ most) : Bud (w.setChan c most buf false s r false) b c most buf.size op :=
  ⟨h.1, by simp only [World.setChan]; rw [Array.getElem?_setIfInBounds_ne (fun e => h.1 e.symm)]; exact h.2.1, hl, buf, s, r, rfl, heap_setChan _ _ _ _ _ _ _ _ h.ltc⟩
/-- It is shut. -/
theorem Bud.shut (h : Bud w b c most left op) : Bud (w.setCell ⟨b, 1, none⟩ (.bool true)) b c most left false := by
  obtain ⟨h1, h2, h3, buf, s, r, h4, h5⟩ := h
  refine ⟨h1, ?_, h3, buf, s, r, h4, ?_⟩
  · simp [World.setCell, Array.getElem?_modify, h2]
  · rw [Below.heap_setCell _ _ _ _ (fun e => h1 e.symm)]; exact h5
end

/-- How many of n are taken. -/
def taken (n left : Nat) (op : Bool) : Nat := if op then min n left else 0
/-- How many there are behind a Give. -/
def given (most left : Nat) : Nat := if left < most then left + 1 else left
end Go.Proofs.Ytckakdhjnejgmaa
