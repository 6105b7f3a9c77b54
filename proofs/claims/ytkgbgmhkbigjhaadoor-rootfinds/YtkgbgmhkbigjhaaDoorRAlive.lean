/- The walk of planimeterlaw04.alive. -/
import Derived.Test.YtkgbgmhkbigjhaaDoorRRoot
namespace Go.Proofs.YtkgbgmhkbigjhaaDoor
open Go.RowKit

theorem rt_30 : rt 3 (val [30]) = 3 := rt_eq (by decide) (by decide) (by decide)
theorem rt_81 : rt (2 ^ 2) (val [81]) = 3 := rt_eq (by decide) (by decide) (by decide)
theorem ex_30 : decide (Ex 3 (val [30])) = false := decide_eq_false (by rw [Ex, rt_30]; decide)
theorem ex_81 : decide (Ex (2 ^ 2) (val [81])) = true := decide_eq_true (by rw [Ex, rt_81]; decide)
theorem blen_one (x : Nat) (hx : x < 2 ^ 64) : blen (val [x]) ≤ 8192 := by
  have : val [x] = x := by simp [val]
  rw [this]
  have := blen_le_iff.2 hx
  omega

set_option maxHeartbeats 2000000 in
theorem ralive_any (w : World) (hT : Tab w) : Calls Tryd.prog 7 #[] w fun e w' => e = .returned (.bool true) ∧ Below w.heap.size w w' := by
  have HT := Lib.hid hT
  clear hT
  go_enter Tryd.func7, Tryd.ntmps7
  go_wp2_with fail
  have a3 : Below w.heap.size w (w.alloc (.cells #[.int .u64 30] 33)) := (Below.refl _ _).alloc (Nat.le_refl _) _
  have h1 := root_any 3 false _ 1 1 [30] _ (lim_new1 w 33 30 30 rfl (by decide)) (by decide) (HT.out.below a3) (by decide) (by decide) (blen_one 30 (by decide)) ex_30
  rw [rt_30] at h1
  have H1 := Lib.hid h1
  have H3 := Lib.hid a3
  clear h1 a3
  refine H1.out.mono ?_
  rintro e w1 ⟨A1, m1, c1, q1, rfl, _, hl1, hb1, hv1, hb⟩
  obtain rfl : q1 = [3] := bare_eq hl1.words (Words.one (by decide)) hb1 (bare_one (by decide)) (hv1.trans (by decide))
  obtain rfl : m1 = 1 := hl1.len.symm
  have Hb1 := Lib.hid (H3.out.trans (hb.mono (H3.out.size)))
  have Hq1 := Lib.hid hl1
  clear hl1 hb1 hv1 hb H3 H1
  go_wp2_with fail
  have a3 : Below w1.heap.size w1 (w1.alloc (.cells #[.int .u64 81] 33)) := (Below.refl _ _).alloc (Nat.le_refl _) _
  have h1 := halves_any 2 true _ 1 1 [81] _ (lim_new1 w1 33 81 81 rfl (by decide)) (by decide) ((HT.out.below Hb1.out).below a3) (by decide) (blen_one 81 (by decide)) ex_81
  rw [rt_81] at h1
  have H1 := Lib.hid h1
  have H3 := Lib.hid a3
  clear h1 a3
  refine H1.out.mono ?_
  rintro e w2 ⟨A2, m2, c2, q2, rfl, _, hl2, hb2, hv2, hb⟩
  obtain rfl : q2 = [3] := bare_eq hl2.words (Words.one (by decide)) hb2 (bare_one (by decide)) (hv2.trans (by decide))
  obtain rfl : m2 = 1 := hl2.len.symm
  have hbb := H3.out.trans (hb.mono (H3.out.size))
  have Hb2 := Lib.hid (Hb1.out.trans (hbb.mono Hb1.out.size))
  have Hq2 := Lib.hid (Hq1.out.below hbb)
  have Hr2 := Lib.hid hl2
  clear hl2 hb2 hv2 hb hbb H3 H1 Hb1 Hq1
  go_wp2_with fail
  have H1 := Lib.hid (root_arg none 0 0 0 w2 (by decide))
  refine H1.out.mono ?_
  rintro e w3 ⟨rfl, rfl⟩
  clear H1
  go_wp2_with fail
  have H1 := Lib.hid (same_yes A1 1 c1 [3] _ 1 _ (Hq2.out.alloc (.cells #[.int .u64 3] 33)) (lim_new1 w2 33 3 3 rfl (by decide)) (by decide))
  refine H1.out.mono ?_
  rintro e w4 ⟨rfl, q', hw4⟩
  have hbb : Below w2.heap.size w2 w4 := by rw [hw4]; exact below_drewN ((Below.refl _ _).alloc (Nat.le_refl _) _) q'
  have Hb4 := Lib.hid (Hb2.out.trans (hbb.mono Hb2.out.size))
  have Hr4 := Lib.hid (Hr2.out.below hbb)
  clear hw4 hbb H1 Hb2 Hq2 Hr2
  go_wp2_with fail
  have H1 := Lib.hid (same_yes A2 1 c2 [3] _ 1 _ (Hr4.out.alloc (.cells #[.int .u64 3] 33)) (lim_new1 w4 33 3 3 rfl (by decide)) (by decide))
  refine H1.out.mono ?_
  rintro e w5 ⟨rfl, q', hw5⟩
  have hbb : Below w4.heap.size w4 w5 := by rw [hw5]; exact below_drewN ((Below.refl _ _).alloc (Nat.le_refl _) _) q'
  have Hb5 := Lib.hid (Hb4.out.trans (hbb.mono Hb4.out.size))
  clear hw5 hbb H1 Hb4 Hr4
  go_wp2
  go_ret
  exact ⟨rfl, Hb5.out⟩
end Go.Proofs.YtkgbgmhkbigjhaaDoor
