/- The walks of planimeterref05.Same (of the same) and planimeterlaw06.alive. -/
import Derived.Test.YtgacafdkhailmaaDoorFlExact
import Derived.Test.YtgacafdkhailmaaDoorWOf
namespace Go.Proofs.YtgacafdkhailmaaDoor
open Go.RowKit

theorem fsame_yes (g : Bool) (A : Option Addr) (n c : Nat) (xs : List Nat) (e1 : Int) (B : Option Addr) (d : Nat) (w : World) (hA : Lim w A n c xs) (hB : Lim w B n d xs) (hn : n ≤ 4398046511104) :
    Calls Tryd.prog 29 #[.agg #[.bool g, .slice A n c, .int .i64 e1], .agg #[.bool g, .slice B n d, .int .i64 e1]] w fun e w' => e = .returned (.bool true) ∧ Below w.heap.size w w' := by
  have a3 : Below w.heap.size w ((w.alloc (.cells #[.bool g, .slice A n c, .int .i64 e1] 41)).alloc (.cells #[.bool g, .slice B n d, .int .i64 e1] 41)) := ((Below.refl _ _).alloc (Nat.le_refl _) _).alloc (by simp) _
  have H1 := Lib.hid (same_yes A n c xs B d _ (hA.below a3) (hB.below a3) hn)
  have H3 := Lib.hid a3
  clear a3 hA hB
  go_enter Tryd.func29, Tryd.ntmps29
  go_wp2_with fail
  refine H1.out.mono ?_
  rintro e w' ⟨rfl, q, rfl⟩
  have Hfin := Lib.hid (below_drewN H3.out q)
  clear H1 H3
  go_wp2
  go_ret
  exact ⟨rfl, Hfin.out⟩

theorem fO_half : fO 4609434218613702656 = ⟨false, 3, -1⟩ := by
  have h1 : fm 4609434218613702656 = 6755399441055744 := by decide
  have h2 : low 6755399441055744 = 51 := low_eq (m := 1) (by decide)
  have h3 : fe 4609434218613702656 = -52 := by decide
  have h4 : fng 4609434218613702656 = false := by decide
  rw [fO, h1, h3, h4, nO_pos _ _ (by decide), h2]
  rfl
theorem fin_half : Fnt 4609434218613702656 := by decide
theorem back_half : exD (nO false 3 (-1)) = (4609434218613702656, true) := by
  have h := exD_back (b := 4609434218613702656) (by decide) fin_half
  have h1 : fm 4609434218613702656 ≠ 0 := by decide
  rw [if_neg h1, fO_half] at h
  have h2 : nO false 3 (-1) = ⟨false, 3, -1⟩ := nO_self (d := ⟨false, 3, -1⟩) (Or.inl ⟨1, rfl⟩) (by decide) (by decide)
  rw [h2]; exact h
theorem kind_inf : fkd 9218868437227405312 = 3 := by decide


end Go.Proofs.YtgacafdkhailmaaDoor
