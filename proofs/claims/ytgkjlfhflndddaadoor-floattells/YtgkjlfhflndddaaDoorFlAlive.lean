/- The walks of planimeterref05.Same (of the same) and planimeterlaw06.alive. -/
import Derived.Test.YtgkjlfhflndddaaDoorFlExact
import Derived.Test.YtgkjlfhflndddaaDoorWOf
namespace Go.Proofs.YtgkjlfhflndddaaDoor
open Go.RowKit

theorem fsame_yes (g : Bool) (A : Option Addr) (n c : Nat) (xs : List Nat) (e1 : Int) (B : Option Addr) (d : Nat) (w : World) (hA : Lim w A n c xs) (hB : Lim w B n d xs) (hn : n ≤ 4398046511104) :
    Calls Tryd.prog 17 #[.agg #[.bool g, .slice A n c, .int .i64 e1], .agg #[.bool g, .slice B n d, .int .i64 e1]] w fun e w' => e = .returned (.bool true) ∧ Below w.heap.size w w' := by
  have a3 : Below w.heap.size w ((w.alloc (.cells #[.bool g, .slice A n c, .int .i64 e1] 39)).alloc (.cells #[.bool g, .slice B n d, .int .i64 e1] 39)) := ((Below.refl _ _).alloc (Nat.le_refl _) _).alloc (by simp) _
  have H1 := Lib.hid (same_yes A n c xs B d _ (hA.below a3) (hB.below a3) hn)
  have H3 := Lib.hid a3
  clear a3 hA hB
  go_enter Tryd.func17, Tryd.ntmps17
  go_wp2_with fail
  refine H1.out.mono ?_
  rintro e w' ⟨rfl, q, rfl⟩
  have Hfin := Lib.hid (below_drewN H3.out q)
  clear H1 H3
  go_wp2
  go_ret
  exact ⟨rfl, Hfin.out⟩

theorem fO_half : fO 4609434218613702656 = ⟨false, 3, -1⟩ := by
  have h1 : fm 4609434218613702656 = 6755399441055744 := by decide
  have h2 : low 6755399441055744 = 51 := low_eq (m := 1) (by decide)
  have h3 : fe 4609434218613702656 = -52 := by decide
  have h4 : fng 4609434218613702656 = false := by decide
  rw [fO, h1, h3, h4, nO_pos _ _ (by decide), h2]
  rfl
theorem fin_half : Fnt 4609434218613702656 := by decide
theorem back_half : exD (nO false 3 (-1)) = (4609434218613702656, true) := by
  have h := exD_back (b := 4609434218613702656) (by decide) fin_half
  have h1 : fm 4609434218613702656 ≠ 0 := by decide
  rw [if_neg h1, fO_half] at h
  have h2 : nO false 3 (-1) = ⟨false, 3, -1⟩ := nO_self (d := ⟨false, 3, -1⟩) (Or.inl ⟨1, rfl⟩) (by decide) (by decide)
  rw [h2]; exact h
theorem kind_inf : fkd 9218868437227405312 = 3 := by decide

set_option maxHeartbeats 400000 in
theorem falive_any (w : World) (hT : Tab w) : Calls Tryd.prog 7 #[] w fun e w' => e = .returned (.bool true) ∧ Below w.heap.size w w' := by
  have H1 := Lib.hid (fdyad_yes 4609434218613702656 (by decide) w hT fin_half)
  rw [fO_half] at H1
  have HT := Lib.hid hT
  clear hT
  go_enter Tryd.func7, Tryd.ntmps7
  go_wp2_with fail
  refine H1.out.mono ?_
  rintro e w1 ⟨A1, m1, c1, q1, rfl, hm1, hl1, hb1, hv1, hb⟩
  obtain rfl : q1 = [3] := bare_eq hl1.words (Words.one (by decide)) hb1 (bare_one (by decide)) (hv1.trans (by decide))
  obtain rfl : m1 = 1 := hl1.len.symm
  have Hb1 := Lib.hid (hb.trans ((below1 w1 (.cells #[.bool false, .slice A1 1 c1, .int .i64 (-1)] 28)).mono hb.size))
  have Hq1 := Lib.hid (hl1.alloc (.cells #[.bool false, .slice A1 1 c1, .int .i64 (-1)] 28))
  have Hd1 := Lib.hid (Bd.new w1 28 false A1 1 c1 (-1))
  have H2 := Lib.hid (exact_l 4609434218613702656 true false A1 1 c1 [3] (-1) _ Hq1.out (by decide) (HT.out.below Hb1.out) back_half)
  clear hl1 hb1 hv1 hb H1
  go_wp2_with fail
  refine H2.out.mono ?_
  rintro e w2 ⟨rfl, hb⟩
  have Hb2 := Lib.hid (Hb1.out.trans (hb.mono Hb1.out.size))
  have Hq2 := Lib.hid (Hq1.out.below hb)
  have Hd2 := Lib.hid (Hd1.out.below hb)
  have x0 := Hd2.out.c0
  have x1 := Hd2.out.c1
  have x2 := Hd2.out.c2
  clear hb Hb1 Hq1 Hd1 H2
  go_wp2_with fail
  have a3 := below1 w2 (.cells #[.int .u64 3] 22)
  have n1 := lim_new1 w2 22 3 3 rfl (by decide)
  have H1 := Lib.hid (fsame_yes false A1 1 c1 [3] (-1) _ 1 _ (Hq2.out.below a3) n1 (by decide))
  have H3 := Lib.hid a3
  clear a3 x0 x1 x2 n1
  refine H1.out.mono ?_
  rintro e w3 ⟨rfl, hb⟩
  have hbb := H3.out.trans (hb.mono H3.out.size)
  have Hb3 := Lib.hid (Hb2.out.trans (hbb.mono Hb2.out.size))
  clear hb hbb H1 H3 Hb2 Hq2 Hd2
  go_wp2_with fail
  refine (fkind_l 3 9218868437227405312 (by decide) w3 kind_inf).mono ?_
  rintro e w' ⟨rfl, rfl⟩
  go_wp2
  go_ret
  exact ⟨rfl, Hb3.out⟩
end Go.Proofs.YtgkjlfhflndddaaDoor
