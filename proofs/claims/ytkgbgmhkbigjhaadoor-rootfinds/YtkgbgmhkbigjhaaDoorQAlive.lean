/- The walk of planimeterlaw03.alive; contracts in the form that the laws' walks take. -/
import Derived.Test.YtkgbgmhkbigjhaaDoorQDiv
import Derived.Test.YtkgbgmhkbigjhaaDoorPAlive
namespace Go.Proofs.YtkgbgmhkbigjhaaDoor
open Go.RowKit

theorem two_new (w : World) (t x y : Nat) (X Y : Int) (hX : X = (x : Int)) (hY : Y = (y : Int)) (hx : x < 18446744073709551616) (hy : y < 18446744073709551616) :
    Lim ((w.alloc (.cells #[.int .u64 X] t)).alloc (.cells #[.int .u64 Y] t)) (some ⟨w.heap.size, 0, none⟩) 1 1 [x] ∧
    Lim ((w.alloc (.cells #[.int .u64 X] t)).alloc (.cells #[.int .u64 Y] t)) (some ⟨w.heap.size + 1, 0, none⟩) 1 1 [y] ∧
    Below w.heap.size w ((w.alloc (.cells #[.int .u64 X] t)).alloc (.cells #[.int .u64 Y] t)) := by
  refine ⟨(lim_new1 w t x X hX hx).alloc _, ?_, ((Below.refl _ _).alloc (Nat.le_refl _) _).alloc (by simp) _⟩
  have a2 := lim_new1 (w.alloc (.cells #[.int .u64 X] t)) t y Y hY hy
  rw [show (w.alloc (.cells #[.int .u64 X] t)).heap.size = w.heap.size + 1 from by simp] at a2
  exact a2
theorem below_new {w w' : World} {o : Obj} (h : Below (w.alloc o).heap.size (w.alloc o) w') : Below w.heap.size w w' := ((Below.refl _ _).alloc (Nat.le_refl _) _).trans (h.mono (by simp))

/-- Bits, a letter. -/
theorem bits_v (v : Nat) (A : Option Addr) (n c : Nat) (xs : List Nat) (w : World) (hA : Lim w A n c xs) (hn : n ≤ 4398046511104) (hv : Hid (blen (val xs) = v)) :
    Calls Tryd.prog 18 #[.slice A n c] w fun e w' => e = .returned (.int .i64 (v : Int)) ∧ w = w' := by
  rw [← hv.out]; exact bits_any A n c xs w hA hn


end Go.Proofs.YtkgbgmhkbigjhaaDoor
