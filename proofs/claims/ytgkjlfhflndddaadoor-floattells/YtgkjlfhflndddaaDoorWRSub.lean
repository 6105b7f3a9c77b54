/- The walk of planimeterref01.Sub. -/
import Derived.Test.YtgkjlfhflndddaaDoorWRCmp
namespace Go.Proofs.YtgkjlfhflndddaaDoor
open Go.RowKit

section
variable {kd : IntKind} {t : TypeId} {w : World} {B n c : Nat} {A : Option Addr} {es : List Nat}
theorem Own.form (h : Own kd t w B (.slice A n c) es) (hl : es.length = n) (hn : 0 < n) : ∃ g, A = some ⟨g, 0, none⟩ ∧ B ≤ g := by
  obtain ⟨_, h | ⟨g, cap, cur, hv, hg, _⟩⟩ := h
  · obtain ⟨_, h⟩ := h; omega
  · injection hv with e1 e2 e3
    exact ⟨g, e1, hg⟩
theorem Own.cellAt {g : Nat} (h : Own kd t w B (.slice (some ⟨g, 0, none⟩) n c) es) (hl : es.length = n) {j : Nat} (hj : j < n) : w.cell? ⟨g, j, none⟩ = some (.int kd ((es.getD j 0 : Nat) : Int)) := by
  unfold Own at h
  rw [hl] at h
  rw [World.ownsRow.cellAt h j (by omega), List.getElem?_map, List.getD_eq_getElem?_getD, List.getElem?_eq_getElem (by omega)]
  rfl
theorem Own.frozenAt {g : Nat} (h : Own kd t w B (.slice (some ⟨g, 0, none⟩) n c) es) (hl : es.length = n) (j : Nat) : w.frozen? ⟨g, j, none⟩ = false := by
  unfold Own at h
  rw [hl] at h
  exact World.ownsRow.frozenAt h j
theorem Own.set {g : Nat} (h : Own kd t w B (.slice (some ⟨g, 0, none⟩) n c) es) (hl : es.length = n) (j z : Nat) : Own kd t (w.setCell ⟨g, j, none⟩ (.int kd (z : Int))) B (.slice (some ⟨g, 0, none⟩) n c) (es.set j z) := by
  unfold Own at h ⊢
  rw [hl] at h
  have := (World.ownsRow.stored h j (.int kd (z : Int))).1
  rw [List.length_set, hl, List.map_set]
  exact this
end

theorem dsub_step {x y bn s t k X Y Z : Nat} (hs : s + (bn + y) = x + 65536 * t) (h : Z + Y = X + D.pw k * bn) : Z + D.pw k * s + (Y + D.pw k * y) = X + D.pw k * x + D.pw (k + 1) * t := by
  have e : D.pw (k + 1) * t = D.pw k * (65536 * t) := by rw [D.pw_succ, Nat.mul_assoc, ← Nat.mul_assoc, ← Nat.mul_assoc, Nat.mul_comm (D.pw k)]
  have e2 : D.pw k * (s + (bn + y)) = D.pw k * (x + 65536 * t) := by rw [hs]
  rw [Nat.mul_add, Nat.mul_add, Nat.mul_add] at e2
  omega
theorem dsub_end {X Y Z bn k : Nat} (h : Z + Y = X + D.pw k * bn) (hb : bn ≤ 1) (hz : Z < D.pw k) (hle : Y ≤ X) : Z = X - Y := by
  have : bn = 0 ∨ bn = 1 := by omega
  rcases this with rfl | rfl
  · simp at h; omega
  · simp at h; omega
theorem set_take {es : List Nat} {k z : Nat} (hk : k < es.length) : D.val ((es.set k z).take (k + 1)) = D.val (es.take k) + D.pw k * z := by
  rw [D.val_take_succ _ k (by simpa using hk), List.take_set_of_le (Nat.le_refl _)]
  congr 2
  rw [List.getD_eq_getElem?_getD, List.getElem?_set_self hk]; rfl
theorem set_words {es : List Nat} {k z : Nat} (h : D.Words es) (hz : z < 65536) : D.Words (es.set k z) := by
  intro x hx
  rcases List.mem_or_eq_of_mem_set hx with h' | h'
  · exact h x h'
  · rw [h']; exact hz


end Go.Proofs.YtgkjlfhflndddaaDoor
