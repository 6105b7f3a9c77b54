/- The walk of planimeterlaw17.alive. -/
import Derived.Test.YtckakdhjnejgmaaBgAll
namespace Go.Proofs.Ytckakdhjnejgmaa
open Go.Conc Go.RowKit

theorem take_v (t : Bool) (L : Nat) (b c most left : Nat) (op : Bool) (w : World) (h : Bud w b c most left op) (ht : decide (taken 1 left op = 1) = t) (hL : left - taken 1 left op = L) :
    Calls Try.prog 9 #[.pointer (some ⟨b, 0, none⟩)] w fun e w' => e = .returned (.bool t) ∧ Bud w' b c most L op ∧ Ours b c w w' := by
  rw [← ht, ← hL]; exact take_l b c most left op w h
theorem give_v (t : Bool) (L : Nat) (b c most left : Nat) (op : Bool) (w : World) (h : Bud w b c most left op) (ht : decide (left < most) = t) (hL : given most left = L) :
    Calls Try.prog 11 #[.pointer (some ⟨b, 0, none⟩)] w fun e w' => e = .returned (.bool t) ∧ Bud w' b c most L op ∧ Ours b c w w' := by
  rw [← ht, ← hL]; exact give_l b c most left op w h
theorem takeall_v (T L : Nat) (b c most left : Nat) (op : Bool) (n : Int) (w : World) (h : Bud w b c most left op) (hm : most ≤ 4096) (hT : taken n.toNat left op = T) (hL : left - T = L) :
    Calls Try.prog 10 #[.pointer (some ⟨b, 0, none⟩), .int .i64 n] w fun e w' => e = .returned (.int .i64 (T : Int)) ∧ Bud w' b c most L op ∧ Ours b c w w' := by
  rw [← hL, ← hT]; exact takeall_l b c most left op n w h hm

theorem bgalive_any (w : World) : Calls Try.prog 6 #[] w fun e w' => e = .returned (.bool true) ∧ Below w.heap.size w w' := by
  have H1 := Lib.hid (new_l 1 w (by omega))
  go_enter Try.func6, Try.ntmps6
  go_wp2_with fail
  refine H1.out.mono ?_
  rintro e w1 ⟨rfl, g1, k1, s1⟩
  have H2 := Lib.hid (take_v true 0 _ _ _ _ _ w1 g1 rfl rfl)
  have K1 := Lib.hid k1
  clear H1 g1 k1 s1
  go_wp2_with fail
  refine H2.out.mono ?_
  rintro e w2 ⟨rfl, g2, o2⟩
  have H3 := Lib.hid (take_v false 0 _ _ _ _ _ w2 g2 rfl rfl)
  have K2 : Hid (Below w.heap.size w w2) := o2.below K1.out (by omega) (by omega)
  clear H2 g2 o2 K1
  go_wp2_with fail
  refine H3.out.mono ?_
  rintro e w3 ⟨rfl, g3, o3⟩
  have H4 := Lib.hid (give_v true 1 _ _ _ _ _ w3 g3 rfl rfl)
  have K3 : Hid (Below w.heap.size w w3) := o3.below K2.out (by omega) (by omega)
  clear H3 g3 o3 K2
  go_wp2_with fail
  refine H4.out.mono ?_
  rintro e w4 ⟨rfl, g4, o4⟩
  have H5 := Lib.hid (take_v true 0 _ _ _ _ _ w4 g4 rfl rfl)
  have K4 : Hid (Below w.heap.size w w4) := o4.below K3.out (by omega) (by omega)
  clear H4 g4 o4 K3
  go_wp2_with fail
  refine H5.out.mono ?_
  rintro e w5 ⟨rfl, g5, o5⟩
  have H6 := Lib.hid (new_no (-1) w5 (by omega))
  have K5 : Hid (Below w.heap.size w w5) := o5.below K4.out (by omega) (by omega)
  clear H5 g5 o5 K4
  go_wp2_with fail
  refine H6.out.mono ?_
  rintro e w6 ⟨rfl, rfl⟩
  clear H6
  go_wp2
  go_ret
  exact ⟨rfl, K5.out⟩
end Go.Proofs.Ytckakdhjnejgmaa
