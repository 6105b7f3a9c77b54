/- The walks of prod.Mul, prod.Times and math/bits.Len. -/
import Derived.Test.YtgacafdkhailmaaDoorPCols
namespace Go.Proofs.YtgacafdkhailmaaDoor
open Go.RowKit

theorem bits_to (b : Nat) (A : Option Addr) (n c : Nat) (xs : List Nat) (w : World) (hA : Lim w A n c xs) (hn : n ≤ 4398046511104) (hb : Hid (blen (val xs) = b)) :
    Calls Tryd.prog 64 #[.slice A n c] w fun e w' => e = .returned (.int .i64 (b : Int)) ∧ w = w' := by
  rw [← hb.out]; exact bits_any A n c xs w hA hn

theorem val_pos_len {xs : List Nat} (h : val xs ≠ 0) : 1 ≤ tl xs := by
  cases e : tl xs with
  | zero => exact absurd (tl_zero e) h
  | succ j => omega





end Go.Proofs.YtgacafdkhailmaaDoor
