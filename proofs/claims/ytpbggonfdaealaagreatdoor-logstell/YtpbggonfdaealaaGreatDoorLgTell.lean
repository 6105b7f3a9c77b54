/- The walk of the law LogsTell (written by law_ltell.py). -/
import Derived.Test.YtpbggonfdaealaaGreatDoorLgTellN
import Derived.Test.YtpbggonfdaealaaGreatDoorLgTellA
import Derived.Test.YtpbggonfdaealaaGreatDoorLgTellB
namespace Go.Proofs.YtpbggonfdaealaaGreatDoor
open Go.RowKit

theorem walk_logsTell (g : Bool) (A : Option Addr) (n c : Nat) (xs : List Nat) (e0 : Int) (s : Int) (w : World) (hT : Tab w) (hA : Lim w A n c xs) (hs1 : -9223372036854775808 ≤ s) (hs2 : s ≤ 9223372036854775807) :
    Calls Tryz.prog 3 #[.agg #[.bool g, .slice A n c, .int .i64 e0], .int .i64 s] w fun e w' => e = .returned (.bool true) ∧ Below w.heap.size w w' := by
  by_cases h1 : 70 < n
  · exact ltell_long1 g A n c xs e0 s w hT hA h1
  by_cases h2 : 12 < n
  · by_cases h3 : 100 < s
    · exact ltell_long2 g A n c xs e0 s w hT hA ⟨by omega, h2, h3⟩
    · by_cases hr : RightP (nO g (val xs) e0).neg (nO g (val xs) e0).V (nO g (val xs) e0).e
      · by_cases hsc : 8 ≤ s ∧ s ≤ 9000
        · obtain ⟨z, rfl⟩ := Int.eq_ofNat_of_zero_le (show 0 ≤ s by omega)
          by_cases hv : (nO g (val xs) e0).V = 1
          · by_cases he : (nO g (val xs) e0).e = 0
            · exact ltell_oneb g A n c xs e0 z w hT hA ⟨by omega, h2, by omega⟩ (by omega) (by omega) hr ⟨hv, he⟩
            · exact ltell_v1b g A n c xs e0 z w hT hA ⟨by omega, h2, by omega⟩ (by omega) (by omega) hr ⟨hv, he⟩
          · exact ltell_neb g A n c xs e0 z w hT hA ⟨by omega, h2, by omega⟩ (by omega) (by omega) hr hv
        · exact ltell_no2b g A n c xs e0 s w hT hA ⟨by omega, h2, by omega⟩ hs1 hs2 hr hsc
      · exact ltell_no1b g A n c xs e0 s w hT hA ⟨by omega, h2, by omega⟩ hs1 hs2 hr
  · by_cases hr : RightP (nO g (val xs) e0).neg (nO g (val xs) e0).V (nO g (val xs) e0).e
    · by_cases hsc : 8 ≤ s ∧ s ≤ 9000
      · obtain ⟨z, rfl⟩ := Int.eq_ofNat_of_zero_le (show 0 ≤ s by omega)
        by_cases hv : (nO g (val xs) e0).V = 1
        · by_cases he : (nO g (val xs) e0).e = 0
          · exact ltell_onea g A n c xs e0 z w hT hA (by omega) (by omega) (by omega) hr ⟨hv, he⟩
          · exact ltell_v1a g A n c xs e0 z w hT hA (by omega) (by omega) (by omega) hr ⟨hv, he⟩
        · exact ltell_nea g A n c xs e0 z w hT hA (by omega) (by omega) (by omega) hr hv
      · exact ltell_no2a g A n c xs e0 s w hT hA (by omega) hs1 hs2 hr hsc
    · exact ltell_no1a g A n c xs e0 s w hT hA (by omega) hs1 hs2 hr
end Go.Proofs.YtpbggonfdaealaaGreatDoor
