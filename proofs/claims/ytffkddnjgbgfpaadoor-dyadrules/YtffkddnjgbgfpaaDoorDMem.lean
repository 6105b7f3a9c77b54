/- Digits in memory; what ties digits to limbs. -/
import Derived.Test.YtffkddnjgbgfpaaDoorDigs
import Derived.Test.YtffkddnjgbgfpaaDoorWApp
import Derived.Test.YtffkddnjgbgfpaaDoorWAdd
namespace Go.Proofs.YtffkddnjgbgfpaaDoor
open Go.RowKit

theorem info32 : (Tryd.prog.info? 76).map (fun i => (i.zero, i.size, i.bytes)) = some (some (.int .u32 0), 1, 4) := by kernel_rfl

/-- The slice value '.slice A n c' holds the digits ds. -/
def Dig (w : World) (A : Option Addr) (n c : Nat) (ds : List Nat) : Prop := Row .u32 w A n c ds ∧ D.Words ds
section
variable {w w' : World} {A : Option Addr} {n c : Nat} {ds : List Nat}
theorem Dig.len (h : Dig w A n c ds) : ds.length = n := h.1.1
theorem Dig.le (h : Dig w A n c ds) : n ≤ c := h.1.2.1
theorem Dig.words (h : Dig w A n c ds) : D.Words ds := h.2
theorem Dig.at_ (h : Dig w A n c ds) (hn : 0 < n) : ∃ b o, A = some ⟨b, o, none⟩ ∧ b < w.heap.size ∧ ∀ k, k < n → w.cell? ⟨b, o + k, none⟩ = some (.int .u32 ((ds.getD k 0 : Nat) : Int)) := h.1.at_ hn
theorem Dig.below (h : Dig w A n c ds) (hb : Below w.heap.size w w') : Dig w' A n c ds := ⟨h.1.below hb, h.2⟩
theorem Dig.drewN (h : Dig w A n c ds) (k : Nat) : Dig (w.drewN k) A n c ds := h
theorem Dig.nil (w : World) (A : Option Addr) (c : Nat) : Dig w A 0 c [] := ⟨Row.nil _ _ _ _, D.Words.nil⟩
theorem Row.take {kd : IntKind} (h : Row kd w A n c ds) {m : Nat} (hm : m ≤ n) : Row kd w A m c (ds.take m) :=
  ⟨by rw [List.length_take, h.1]; omega, Nat.le_trans hm h.2.1, fun hn => by
    obtain ⟨b, o, e, hb, hc⟩ := h.at_ (by omega)
    refine ⟨b, o, e, hb, fun k hk => ?_⟩
    rw [hc k (by omega), List.getD_eq_getElem?_getD, List.getD_eq_getElem?_getD, List.getElem?_take_of_lt hk]⟩
theorem Dig.take (h : Dig w A n c ds) {m : Nat} (hm : m ≤ n) : Dig w A m c (ds.take m) := ⟨h.1.take hm, h.2.take m⟩
theorem Dig.tl_le (h : Dig w A n c ds) : D.tl ds ≤ n := by have := D.tl_le ds; rw [h.len] at this; exact this
end

/-- What a call tells that hands back digits: without leading noughts, of value V, at most L of them, nothing old has turned. -/
def DTells (w : World) (V L : Nat) (e : Ending) (w' : World) : Prop :=
  ∃ A m c ds, e = .returned (.slice A m c) ∧ m ≤ L ∧ Dig w' A m c ds ∧ D.Bare ds ∧ D.val ds = V ∧ Below w.heap.size w w'
theorem DTells.wider {w w' : World} {V L M : Nat} {e : Ending} (h : DTells w V L e w') (hM : L ≤ M) : DTells w V M e w' := by
  obtain ⟨A, m, c, zs, h1, h2, h3⟩ := h
  exact ⟨A, m, c, zs, h1, Nat.le_trans h2 hM, h3⟩



/-- What the call owns, as digits. -/
theorem Own.dig {w : World} {B : Nat} {A : Option Addr} {n c : Nat} {ds : List Nat} (h : Own .u32 76 w B (.slice A n c) ds) (hl : ds.length = n) (hw : D.Words ds) : Dig w A n c ds := by
  obtain ⟨A', c', e, hr⟩ := h.row
  injection e with e1 e2 e3
  subst e1; subst e3
  rw [hl] at hr
  exact ⟨hr, hw⟩
end Go.Proofs.YtffkddnjgbgfpaaDoor
