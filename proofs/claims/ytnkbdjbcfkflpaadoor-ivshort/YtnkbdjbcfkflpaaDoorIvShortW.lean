/- The walk of IvShort as its card wants it. -/
import Derived.Test.YtnkbdjbcfkflpaaDoorIvShort
import Derived.Test.YtnkbdjbcfkflpaaDoorIvOpen
namespace Go.Proofs.YtnkbdjbcfkflpaaDoor
open Go.RowKit

set_option maxHeartbeats 2000000 in
set_option maxRecDepth 20000 in
theorem ivshort_far (bi : Int) (g1 : Bool) (A1 : Option Addr) (n1 c1 : Nat) (e1 : Int) (g2 : Bool) (A2 : Option Addr) (n2 c2 : Nat) (e2 : Int) (w : World) (hT : Tab w) (HVA : Hid (decide (Near15 n1 e1 ∧ Near15 n2 e2) = false)) :
    Calls Tryd.prog 4 #[.agg #[.bool g1, .slice A1 n1 c1, .int .i64 e1, .bool g2, .slice A2 n2 c2, .int .i64 e2], .int .i64 bi] w fun e w' => e = .returned (.bool true) ∧ Below w.heap.size w w' := by
  have ba := below1 w (.cells #[.bool g1, .slice A1 n1 c1, .int .i64 e1, .bool g2, .slice A2 n2 c2, .int .i64 e2] 26)
  have J0 := Lib.hid (Jb.new w g1 A1 n1 c1 e1 g2 A2 n2 c2 e2)
  have K := Lib.hid (ivalive_any _ (hT.below ba))
  have HS := Lib.hid ba
  clear hT ba
  go_enter Tryd.func4, Tryd.ntmps4
  go_wp2_with fail
  refine K.out.mono ?_
  rintro e w1 ⟨rfl, hB1⟩
  have J1 := J0.out.below hB1
  have c0 := J1.x0
  have c1' := J1.x1
  have c2' := J1.x2
  have c3 := J1.x3
  have c4 := J1.x4
  have c5 := J1.x5
  have K2 := Lib.hid (near15_l false g1 A1 n1 c1 e1 g2 A2 n2 c2 e2 w1 HVA)
  have HS1 := Lib.hid (HS.out.trans (hB1.mono HS.out.size))
  clear J1 J0 K hB1 HS
  go_wp2_with fail
  refine K2.out.mono ?_
  rintro e w2 ⟨rfl, hB2⟩
  have Hfin := Lib.hid (HS1.out.trans (hB2.mono HS1.out.size))
  clear K2 HS1 hB2 c0 c1' c2' c3 c4 c5
  go_wp2
  go_ret
  exact ⟨rfl, Hfin.out⟩

theorem short_both {g : Bool} {V : Nat} {e : Int} {d : Dy} {b : Nat} {dir : Int} (hN : Nm 3640 g V e d) (hV : blen V ≤ 640) (hb1 : 1 ≤ b) (hb2 : b ≤ 4096) (hdir : dir = 2 ∨ dir = 3) :
    ∃ X, ShC b dir d X ∧ ShC b dir X X ∧ Sp 3641 X ∧ EndF d X b ∧ (dir = 2 → dwD d ≤ dwD X) ∧ (dir = 3 → dwD X ≤ dwD d) := by
  have h1 := (mk_fine hN.1).2.2.2
  have h2 := blen_mono h1
  obtain ⟨X, c1, s1, b1, _, e1, u1, w1⟩ := short_end (by omega) hN.2.1 hb1 hb2 (by omega) hdir
  obtain ⟨Y, c2, _, _, f2, _⟩ := short_end (by omega) s1 hb1 hb2 (by omega) hdir
  have e := f2 b1
  rw [e] at c2
  exact ⟨X, c1, c2, s1, e1, u1, w1⟩
theorem walk_ivShort (g1 : Bool) (A1 : Option Addr) (n1 c1 : Nat) (xs1 : List Nat) (e1 : Int) (g2 : Bool) (A2 : Option Addr) (n2 c2 : Nat) (xs2 : List Nat) (e2 : Int) (bi : Int) (w : World) (hT : Tab w) (l1 : Lim w A1 n1 c1 xs1) (l2 : Lim w A2 n2 c2 xs2) (_hb1 : -9223372036854775808 ≤ bi) (_hb2 : bi ≤ 9223372036854775807) :
    Calls Tryd.prog 4 #[.agg #[.bool g1, .slice A1 n1 c1, .int .i64 e1, .bool g2, .slice A2 n2 c2, .int .i64 e2], .int .i64 bi] w fun e w' => e = .returned (.bool true) ∧ Below w.heap.size w w' := by
  by_cases hn : Near15 n1 e1 ∧ Near15 n2 e2
  · obtain ⟨d1, N1⟩ := nm_raw g1 l1 hn.1
    obtain ⟨d2, N2⟩ := nm_raw g2 l2 hn.2
    have hv1 : blen (val xs1) ≤ 640 := by have h := l1.blen_le; have := hn.1.1; omega
    have hv2 : blen (val xs2) ≤ 640 := by have h := l2.blen_le; have := hn.2.1; omega
    obtain ⟨v1, hv⟩ : ∃ v, decide (dw g1 (val xs1) e1 ≤ dw g2 (val xs2) e2) = v := ⟨_, rfl⟩
    by_cases hok : v1 = true ∧ 1 ≤ bi ∧ bi ≤ 4096
    · obtain ⟨b, rfl⟩ := Int.eq_ofNat_of_zero_le (show 0 ≤ bi by omega)
      obtain ⟨X, x1, x2, x3, x4, _, x6⟩ := short_both (b := b) (dir := 3) N1 hv1 (by omega) (by omega) (Or.inr rfl)
      obtain ⟨Y, y1, y2, y3, y4, y5, _⟩ := short_both (b := b) (dir := 2) N2 hv2 (by omega) (by omega) (Or.inl rfl)
      exact ivshort_good b X Y d1 d2 v1 g1 A1 n1 c1 xs1 e1 g2 A2 n2 c2 xs2 e2 w l1 l2 hT (decide_eq_true hn) N1 N2 hv hok.1 (by omega) (by omega) ⟨x1, x2, x3, x4, x6 rfl⟩ ⟨y1, y2, y3, y4, y5 rfl⟩
    · refine ivshort_bad bi d1 d2 v1 g1 A1 n1 c1 xs1 e1 g2 A2 n2 c2 xs2 e2 w l1 l2 hT (decide_eq_true hn) N1 N2 hv (show _ ∨ _ from ?_)
      cases v1 with
      | false => exact Or.inl rfl
      | true => exact Or.inr (by have : ¬ (1 ≤ bi ∧ bi ≤ 4096) := fun h => hok ⟨rfl, h⟩; omega)
  · exact ivshort_far bi g1 A1 n1 c1 e1 g2 A2 n2 c2 e2 w hT (decide_eq_false hn)
end Go.Proofs.YtnkbdjbcfkflpaaDoor
