/- What the walks of the laws share: new rows of limbs; Cmp with the world behind it a letter; facts on cmpZ. -/
import Derived.Test.YtgacafdkhailmaaDoorWSmall
import Derived.Test.YtgacafdkhailmaaDoorWCmp
namespace Go.Proofs.YtgacafdkhailmaaDoor
open Go.RowKit

theorem lim_new1 (w : World) (t x : Nat) (X : Int) (hX : X = (x : Int)) (hx : x < 18446744073709551616) : Lim (w.alloc (.cells #[.int .u64 X] t)) (some ⟨w.heap.size, 0, none⟩) 1 1 [x] := by
  subst hX
  refine ⟨rfl, Nat.le_refl _, Words.one hx, fun _ => ⟨w.heap.size, 0, rfl, by simp, fun k hk => ?_⟩⟩
  obtain rfl : k = 0 := by omega
  simp [World.cell?_alloc_new]
theorem lim_new2 (w : World) (t x y : Nat) (X Y : Int) (hX : X = (x : Int)) (hY : Y = (y : Int)) (hx : x < 18446744073709551616) (hy : y < 18446744073709551616) : Lim (w.alloc (.cells #[.int .u64 X, .int .u64 Y] t)) (some ⟨w.heap.size, 0, none⟩) 2 2 [x, y] := by
  subst hX; subst hY
  refine ⟨rfl, Nat.le_refl _, Words.cons hx (Words.one hy), fun _ => ⟨w.heap.size, 0, rfl, by simp, fun k hk => ?_⟩⟩
  have : k = 0 ∨ k = 1 := by omega
  rcases this with rfl | rfl <;> simp [World.cell?_alloc_new]

theorem bare_one {x : Nat} (hx : x ≠ 0) : Bare [x] := by show (if (0 : Nat) = 0 then (if x = 0 then 0 else 1) else 0 + 1) = 1; simp [hx]

/-- Cmp, with the world behind it a letter. -/
theorem cmp_b (v : Int) (A : Option Addr) (n c : Nat) (xs : List Nat) (B : Option Addr) (m d : Nat) (ys : List Nat) (w : World) (hA : Lim w A n c xs) (hB : Lim w B m d ys) (hn : n ≤ 1099511627776) (hm : m ≤ 1099511627776) (hv : Hid (cmpZ (val xs) (val ys) = v)) :
    Calls Tryd.prog 74 #[.slice A n c, .slice B m d] w fun e w' => e = .returned (.int .i64 v) ∧ Below w.heap.size w w' := by
  rw [← hv.out]
  refine (cmp_any A n c xs B m d ys w hA hB hn hm).mono ?_
  rintro e w' ⟨rfl, q, rfl⟩
  exact ⟨rfl, below_drewN (Below.refl _ _) q⟩

theorem cmpZ_swap (x y : Nat) : cmpZ y x = - cmpZ x y := by
  rcases Nat.lt_trichotomy x y with h | h | h
  · rw [cmpZ_gt h, cmpZ_lt h]; rfl
  · rw [cmpZ_eq h, cmpZ_eq h.symm]; rfl
  · rw [cmpZ_lt h, cmpZ_gt h]
theorem cmpZ_bd (x y : Nat) : -1 ≤ cmpZ x y ∧ cmpZ x y ≤ 1 := by
  rcases Nat.lt_trichotomy x y with h | h | h
  · rw [cmpZ_lt h]; decide
  · rw [cmpZ_eq h]; decide
  · rw [cmpZ_gt h]; decide
theorem cmpZ_le {x y : Nat} (h : cmpZ x y ≤ 0) : x ≤ y := by
  rcases Nat.lt_or_ge y x with h' | h'
  · rw [cmpZ_gt h'] at h; omega
  · exact h'
theorem le_cmpZ {x y : Nat} (h : x ≤ y) : cmpZ x y ≤ 0 := by
  rcases Nat.lt_or_ge x y with h' | h'
  · rw [cmpZ_lt h']; decide
  · rw [cmpZ_eq (by omega)]; decide
end Go.Proofs.YtgacafdkhailmaaDoor
