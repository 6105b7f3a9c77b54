/- The walk of planimeterlaw01.alive: the chapter's example holds. -/
import Derived.Test.YtoaabceamkeceaaDoorWShl
namespace Go.Proofs.YtoaabceamkeceaaDoor
open Go.RowKit

theorem lim_new1 (w : World) (t x : Nat) (X : Int) (hX : X = (x : Int)) (hx : x < 18446744073709551616) : Lim (w.alloc (.cells #[.int .u64 X] t)) (some ⟨w.heap.size, 0, none⟩) 1 1 [x] := by
  subst hX
  refine ⟨rfl, Nat.le_refl _, Words.one hx, fun _ => ⟨w.heap.size, 0, rfl, by simp, fun k hk => ?_⟩⟩
  obtain rfl : k = 0 := by omega
  simp [World.cell?_alloc_new]
theorem lim_new2 (w : World) (t x y : Nat) (X Y : Int) (hX : X = (x : Int)) (hY : Y = (y : Int)) (hx : x < 18446744073709551616) (hy : y < 18446744073709551616) : Lim (w.alloc (.cells #[.int .u64 X, .int .u64 Y] t)) (some ⟨w.heap.size, 0, none⟩) 2 2 [x, y] := by
  subst hX; subst hY
  refine ⟨rfl, Nat.le_refl _, Words.cons hx (Words.one hy), fun _ => ⟨w.heap.size, 0, rfl, by simp, fun k hk => ?_⟩⟩
  have : k = 0 ∨ k = 1 := by omega
  rcases this with rfl | rfl <;> simp [World.cell?_alloc_new]

theorem bare_one {x : Nat} (hx : x ≠ 0) : Bare [x] := by show (if (0 : Nat) = 0 then (if x = 0 then 0 else 1) else 0 + 1) = 1; simp [hx]

set_option maxHeartbeats 2000000 in
theorem alive_any (w : World) (hT : Tab w) : Calls Tryd.prog 7 #[] w fun e w' => e = .returned (.bool true) ∧ Below w.heap.size w w' := by
  have HT := Lib.hid hT
  clear hT
  go_enter Tryd.func7, Tryd.ntmps7
  go_wp2_with fail
  have hb0 : Below w.heap.size w (w.alloc (.cells #[.int .u64 5, .int .u64 0] 35)) := (Below.refl _ _).alloc (Nat.le_refl _) _
  have h1 := shr_all _ 2 2 [5, 0] _ (lim_new2 w 35 5 0 5 0 rfl rfl (by decide) (by decide)) (by decide) (HT.out.below hb0) 1 (by decide)
  rw [show val [5, 0] / 2 ^ (1 : Int).toNat = 2 from by decide, show decide (val [5, 0] % 2 ^ (1 : Int).toNat ≠ 0) = true from by decide] at h1
  have H1 := Lib.hid h1
  clear h1
  refine H1.out.mono ?_
  rintro e w1 ⟨A, m, c, zs, rfl, hm, hl, hbare, hval, hb⟩
  obtain rfl : zs = [2] := bare_eq hl.words (Words.one (by decide)) hbare (bare_one (by decide)) (hval.trans (by decide))
  obtain rfl : m = 1 := hl.len.symm
  have hb1 := hb0.trans (hb.mono (by simp))
  have Hl := Lib.hid hl
  have Hb1 := Lib.hid hb1
  clear hm hbare hval hb hb0 hl hb1
  go_wp2_with fail
  have h2 : Calls Tryd.prog 15 #[.slice (some ⟨w1.heap.size, 0, none⟩) 1 1, .slice (some ⟨w1.heap.size + 1, 0, none⟩) 1 1] ((w1.alloc (.cells #[.int .u64 1] 35)).alloc (.cells #[.int .u64 2] 35)) fun e w' => e = .returned (.tuple #[.slice none 0 0, .int .i64 1]) ∧ ∃ q, w' = ((w1.alloc (.cells #[.int .u64 1] 35)).alloc (.cells #[.int .u64 2] 35)).drewN q := by
    have a1 := (lim_new1 w1 35 1 1 rfl (by decide)).alloc (.cells #[.int .u64 2] 35)
    have a2 := lim_new1 (w1.alloc (.cells #[.int .u64 1] 35)) 35 2 2 rfl (by decide)
    rw [show (w1.alloc (.cells #[.int .u64 1] 35)).heap.size = w1.heap.size + 1 from by simp] at a2
    exact sub_no _ 1 1 [1] _ 1 1 [2] _ a1 a2 (by decide) (by decide) (by decide)
  have H2 := Lib.hid h2
  clear h2
  refine H2.out.mono ?_
  rintro e w2 ⟨rfl, q, hw2⟩
  have hb2 : Below w1.heap.size w1 w2 := by
    rw [hw2]
    exact below_drewN (((Below.refl _ _).alloc (Nat.le_refl _) _).alloc (by simp) _) q
  have Hl2 := Lib.hid (Hl.out.below hb2)
  have Hb2 := Lib.hid (Hb1.out.trans (hb2.mono Hb1.out.size))
  clear hw2 hb2 Hl Hb1 H2
  go_wp2_with fail
  have H3 := Lib.hid (same_yes A 1 c [2] _ 1 _ (Hl2.out.alloc (.cells #[.int .u64 2] 35)) (lim_new1 w2 35 2 2 rfl (by decide)) (by decide))
  refine H3.out.mono ?_
  rintro e w3 ⟨rfl, q', hw3⟩
  have hb3 : Below w2.heap.size w2 w3 := by
    rw [hw3]
    exact below_drewN ((Below.refl _ _).alloc (Nat.le_refl _) _) q'
  have Hb3 := Lib.hid (Hb2.out.trans (hb3.mono Hb2.out.size))
  clear hw3 hb3 Hl2 Hb2 H3
  go_wp2_with fail
  have h4 := bits_any _ 2 2 [0, 1] _ (lim_new2 w3 35 0 1 0 1 rfl rfl (by decide) (by decide)) (by decide)
  rw [show blen (val [0, 1]) = 65 from by decide] at h4
  have H4 := Lib.hid h4
  clear h4
  refine H4.out.mono ?_
  rintro e w4 ⟨rfl, hw4⟩
  have Hb4 : Hid (Below w.heap.size w w4) := by rw [← hw4]; exact Hb3.out.alloc Hb3.out.size _
  clear hw4 Hb3 H4
  go_wp2
  go_ret
  exact ⟨rfl, Hb4.out⟩
end Go.Proofs.YtoaabceamkeceaaDoor
