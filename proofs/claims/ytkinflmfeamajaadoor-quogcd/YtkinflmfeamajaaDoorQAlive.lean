/- The walk of planimeterlaw03.alive; contracts in the form that the laws' walks take. -/
import Derived.Test.YtkinflmfeamajaaDoorQDiv
import Derived.Test.YtkinflmfeamajaaDoorPAlive
namespace Go.Proofs.YtkinflmfeamajaaDoor
open Go.RowKit

theorem two_new (w : World) (t x y : Nat) (X Y : Int) (hX : X = (x : Int)) (hY : Y = (y : Int)) (hx : x < 18446744073709551616) (hy : y < 18446744073709551616) :
    Lim ((w.alloc (.cells #[.int .u64 X] t)).alloc (.cells #[.int .u64 Y] t)) (some ⟨w.heap.size, 0, none⟩) 1 1 [x] ∧
    Lim ((w.alloc (.cells #[.int .u64 X] t)).alloc (.cells #[.int .u64 Y] t)) (some ⟨w.heap.size + 1, 0, none⟩) 1 1 [y] ∧
    Below w.heap.size w ((w.alloc (.cells #[.int .u64 X] t)).alloc (.cells #[.int .u64 Y] t)) := by
  refine ⟨(lim_new1 w t x X hX hx).alloc _, ?_, ((Below.refl _ _).alloc (Nat.le_refl _) _).alloc (by simp) _⟩
  have a2 := lim_new1 (w.alloc (.cells #[.int .u64 X] t)) t y Y hY hy
  rw [show (w.alloc (.cells #[.int .u64 X] t)).heap.size = w.heap.size + 1 from by simp] at a2
  exact a2
theorem below_new {w w' : World} {o : Obj} (h : Below (w.alloc o).heap.size (w.alloc o) w') : Below w.heap.size w w' := ((Below.refl _ _).alloc (Nat.le_refl _) _).trans (h.mono (by simp))

/-- Bits, a letter. -/
theorem bits_v (v : Nat) (A : Option Addr) (n c : Nat) (xs : List Nat) (w : World) (hA : Lim w A n c xs) (hn : n ≤ 4398046511104) (hv : Hid (blen (val xs) = v)) :
    Calls Tryd.prog 17 #[.slice A n c] w fun e w' => e = .returned (.int .i64 (v : Int)) ∧ w = w' := by
  rw [← hv.out]; exact bits_any A n c xs w hA hn
/-- Sub of a greater one, the world behind it a letter. -/
theorem sub_nb (A : Option Addr) (n c : Nat) (xs : List Nat) (B : Option Addr) (m d : Nat) (ys : List Nat) (w : World) (hA : Lim w A n c xs) (hB : Lim w B m d ys) (hn : n ≤ 1099511627776) (hm : m ≤ 1099511627776) (hle : val xs < val ys) :
    Calls Tryd.prog 21 #[.slice A n c, .slice B m d] w fun e w' => e = .returned (.tuple #[.slice none 0 0, .int .i64 1]) ∧ Below w.heap.size w w' := by
  refine (sub_no A n c xs B m d ys w hA hB hn hm hle).mono ?_
  rintro e w' ⟨rfl, q, rfl⟩
  exact ⟨rfl, below_drewN (Below.refl _ _) q⟩

set_option maxHeartbeats 2000000 in
theorem qalive_any (w : World) (hT : Tab w) : Calls Tryd.prog 7 #[] w fun e w' => e = .returned (.bool true) ∧ Below w.heap.size w w' := by
  have HT := Lib.hid hT
  clear hT
  go_enter Tryd.func7, Tryd.ntmps7
  go_wp2_with fail
  obtain ⟨a1, a2, a3⟩ := two_new w 23 17 5 17 5 rfl rfl (by decide) (by decide)
  have h1 := div_any _ 1 1 [17] _ 1 1 [5] _ a1 a2 (by decide) (by decide) (by decide) (HT.out.below a3)
  rw [show val [17] / val [5] = 3 from by decide, show val [17] % val [5] = 2 from by decide] at h1
  have H1 := Lib.hid h1
  have H3 := Lib.hid a3
  clear h1 a1 a2 a3
  refine H1.out.mono ?_
  rintro e w1 ⟨A1, m1, c1, q1, A2, m2, c2, r1, rfl, _, _, hl1, hl2, hb1, hb2, hv1, hv2, hb⟩
  obtain rfl : q1 = [3] := bare_eq hl1.words (Words.one (by decide)) hb1 (bare_one (by decide)) (hv1.trans (by decide))
  obtain rfl : r1 = [2] := bare_eq hl2.words (Words.one (by decide)) hb2 (bare_one (by decide)) (hv2.trans (by decide))
  obtain rfl : m1 = 1 := hl1.len.symm
  obtain rfl : m2 = 1 := hl2.len.symm
  have Hb1 := Lib.hid (H3.out.trans (hb.mono (H3.out.size)))
  have Hq1 := Lib.hid hl1
  have Hr1 := Lib.hid hl2
  clear hl1 hl2 hb1 hb2 hv1 hv2 hb H3 H1
  go_wp2_with fail
  obtain ⟨a1, a2, a3⟩ := two_new w1 23 17 5 17 5 rfl rfl (by decide) (by decide)
  have h1 := up_any _ 1 1 [17] _ 1 1 [5] _ a1 a2 (by decide) (by decide) (by decide) ((HT.out.below Hb1.out).below a3)
  rw [show upq (val [17]) (val [5]) = 4 from by decide] at h1
  have H1 := Lib.hid h1
  have H3 := Lib.hid a3
  clear h1 a1 a2 a3
  refine H1.out.mono ?_
  rintro e w2 ⟨A3, m3, c3, u1, rfl, _, hl3, hb3, hv3, hb⟩
  obtain rfl : u1 = [4] := bare_eq hl3.words (Words.one (by decide)) hb3 (bare_one (by decide)) (hv3.trans (by decide))
  obtain rfl : m3 = 1 := hl3.len.symm
  have hbb := H3.out.trans (hb.mono (H3.out.size))
  have Hb2 := Lib.hid (Hb1.out.trans (hbb.mono Hb1.out.size))
  have Hq2 := Lib.hid (Hq1.out.below hbb)
  have Hr2 := Lib.hid (Hr1.out.below hbb)
  have Hu2 := Lib.hid hl3
  clear hl3 hb3 hv3 hb hbb H3 H1 Hb1 Hq1 Hr1
  go_wp2_with fail
  have H1 := Lib.hid (div_nought _ 1 1 [17] none 0 0 [] _ (lim_new1 w2 23 17 17 rfl (by decide)) (Lim.nil _ _ _) (by decide) (by decide) rfl)
  refine H1.out.mono ?_
  rintro e w3 ⟨rfl, hw3⟩
  have hbb : Below w2.heap.size w2 w3 := by rw [← hw3]; exact (Below.refl _ _).alloc (Nat.le_refl _) _
  have Hb3 := Lib.hid (Hb2.out.trans (hbb.mono Hb2.out.size))
  have Hq3 := Lib.hid (Hq2.out.below hbb)
  have Hr3 := Lib.hid (Hr2.out.below hbb)
  have Hu3 := Lib.hid (Hu2.out.below hbb)
  clear hw3 hbb H1 Hb2 Hq2 Hr2 Hu2
  go_wp2_with fail
  have H1 := Lib.hid (same_yes A1 1 c1 [3] _ 1 _ (Hq3.out.alloc (.cells #[.int .u64 3] 23)) (lim_new1 w3 23 3 3 rfl (by decide)) (by decide))
  refine H1.out.mono ?_
  rintro e w4 ⟨rfl, q', hw4⟩
  have hbb : Below w3.heap.size w3 w4 := by rw [hw4]; exact below_drewN ((Below.refl _ _).alloc (Nat.le_refl _) _) q'
  have Hb4 := Lib.hid (Hb3.out.trans (hbb.mono Hb3.out.size))
  have Hr4 := Lib.hid (Hr3.out.below hbb)
  have Hu4 := Lib.hid (Hu3.out.below hbb)
  clear hw4 hbb H1 Hb3 Hq3 Hr3 Hu3
  go_wp2_with fail
  have H1 := Lib.hid (same_yes A2 1 c2 [2] _ 1 _ (Hr4.out.alloc (.cells #[.int .u64 2] 23)) (lim_new1 w4 23 2 2 rfl (by decide)) (by decide))
  refine H1.out.mono ?_
  rintro e w5 ⟨rfl, q', hw5⟩
  have hbb : Below w4.heap.size w4 w5 := by rw [hw5]; exact below_drewN ((Below.refl _ _).alloc (Nat.le_refl _) _) q'
  have Hb5 := Lib.hid (Hb4.out.trans (hbb.mono Hb4.out.size))
  have Hu5 := Lib.hid (Hu4.out.below hbb)
  clear hw5 hbb H1 Hb4 Hr4 Hu4
  go_wp2_with fail
  have H1 := Lib.hid (same_yes A3 1 c3 [4] _ 1 _ (Hu5.out.alloc (.cells #[.int .u64 4] 23)) (lim_new1 w5 23 4 4 rfl (by decide)) (by decide))
  refine H1.out.mono ?_
  rintro e w6 ⟨rfl, q', hw6⟩
  have hbb : Below w5.heap.size w5 w6 := by rw [hw6]; exact below_drewN ((Below.refl _ _).alloc (Nat.le_refl _) _) q'
  have Hb6 := Lib.hid (Hb5.out.trans (hbb.mono Hb5.out.size))
  clear hw6 hbb H1 Hb5 Hu5
  go_wp2
  go_ret
  exact ⟨rfl, Hb6.out⟩
end Go.Proofs.YtkinflmfeamajaaDoor
