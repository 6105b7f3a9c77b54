/- The walk of planimeterref01.Add. -/
import Derived.Test.YtgkjlfhflndddaaDoorWOf
namespace Go.Proofs.YtgkjlfhflndddaaDoor
open Go.RowKit

theorem dadd_step {x y cn s t k X Y Z : Nat} (hs : s + 65536 * t = cn + x + y) (h : Z + D.pw k * cn = X + Y) : Z + D.pw k * s + D.pw (k + 1) * t = X + D.pw k * x + (Y + D.pw k * y) := by
  have e : D.pw (k + 1) * t = D.pw k * (65536 * t) := by rw [D.pw_succ, Nat.mul_assoc, ← Nat.mul_assoc, ← Nat.mul_assoc, Nat.mul_comm (D.pw k)]
  have e2 : D.pw k * (s + 65536 * t) = D.pw k * (cn + x + y) := by rw [hs]
  rw [Nat.mul_add, Nat.mul_add, Nat.mul_add] at e2
  omega
theorem dbare_of {es : List Nat} {k : Nat} (hw : D.Words es) (hl : es.length = k) (h : k = 0 ∨ D.pw (k - 1) ≤ D.val es) : D.Bare es := by
  show D.tl es = es.length
  have h1 := D.tl_le es
  rcases Nat.lt_or_ge (D.tl es) es.length with h2 | h2
  · exfalso
    have h3 := D.val_lt_tl hw
    have h4 : D.pw (D.tl es) ≤ D.pw (k - 1) := D.pw_mono (by omega)
    rcases h with h | h
    · omega
    · omega
  · omega
theorem dval_ge {ds : List Nat} {n : Nat} (hb : D.Bare ds) (hl : ds.length = n) : n = 0 ∨ D.pw (n - 1) ≤ D.val ds := by
  cases n with
  | zero => exact Or.inl rfl
  | succ j => exact Or.inr (D.val_pos_of_tl (by rw [hb, hl]; rfl))
theorem getD_past {ds : List Nat} {k : Nat} (h : ds.length ≤ k) : ds.getD k 0 = 0 := by
  rw [List.getD_eq_getElem?_getD, List.getElem?_eq_none h]; rfl


end Go.Proofs.YtgkjlfhflndddaaDoor
