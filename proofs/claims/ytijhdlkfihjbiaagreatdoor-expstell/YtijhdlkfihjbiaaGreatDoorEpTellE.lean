/- The walk of the law ExpsTell, of lists of up to 2^20 limbs (written by law_etell.py). -/
import Derived.Test.YtijhdlkfihjbiaaGreatDoorEpTellA
import Derived.Test.YtijhdlkfihjbiaaGreatDoorEpTellB
namespace Go.Proofs.YtijhdlkfihjbiaaGreatDoor
open Go.RowKit

theorem walk_expsTell (g : Bool) (A : Option Addr) (n c : Nat) (xs : List Nat) (e0 : Int) (s : Int) (w : World) (hT : Tab w) (hA : Lim w A n c xs) (hn : n ≤ 1048576) (hs1 : -9223372036854775808 ≤ s) (hs2 : s ≤ 9223372036854775807) :
    Calls Tryz.prog 3 #[.agg #[.bool g, .slice A n c, .int .i64 e0], .int .i64 s] w fun e w' => e = .returned (.bool true) ∧ Below w.heap.size w w' := by
  by_cases hf : 20 < n ∨ (400 < s ∧ s ≤ 8900)
  · exact etell_far g A n c xs e0 s w hT hA hn hf
  by_cases h3 : 300 < s
  · exact etell_high g A n c xs e0 s w hT hA hn hf h3
  by_cases hr : (8 ≤ s ∧ s ≤ 8900) ∧ Right14 (nO g (val xs) e0).V (nO g (val xs) e0).e
  · obtain ⟨z, rfl⟩ := Int.eq_ofNat_of_zero_le (show 0 ≤ s by omega)
    by_cases hw : ∀ k a b c d, EpW z (nO g (val xs) e0) (nO g (val xs) e0) k a b c d → b ≤ 2 ^ z
    · by_cases h0 : (nO g (val xs) e0).V = 0
      · exact etell_nil g A n c xs e0 z w hT hA hn (by omega) (by omega) (by omega) hr.2 hw h0
      · by_cases ht : 9 < (blen (nO g (val xs) e0).V : Int) - 1 + (nO g (val xs) e0).e
        · exact etell_big g A n c xs e0 z w hT hA hn (by omega) (by omega) (by omega) hr.2 hw ⟨h0, ht⟩
        · exact etell_yes g A n c xs e0 z w hT hA hn (by omega) (by omega) (by omega) hr.2 hw ⟨h0, by omega⟩
    · refine etell_wide g A n c xs e0 z w hT hA hn (by omega) (by omega) (by omega) hr.2 ?_
      refine Classical.byContradiction fun h => hw fun k a b c d h1 => ?_
      refine Nat.le_of_not_lt fun h2 => h ⟨k, a, b, c, d, h1, h2⟩
  · exact etell_wrong g A n c xs e0 s w hT hA hn hf (by omega) hr
end Go.Proofs.YtijhdlkfihjbiaaGreatDoor
