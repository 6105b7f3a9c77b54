/- The walks of planimeterref05.Same, dyad.Of (of -4), planimeterlaw05.alive and near. -/
import Derived.Test.YtffkddnjgbgfpaaDoorDyMul
import Derived.Test.YtffkddnjgbgfpaaDoorWOf
namespace Go.Proofs.YtffkddnjgbgfpaaDoor
open Go.RowKit

theorem dsame_yes (g : Bool) (A : Option Addr) (n c : Nat) (xs : List Nat) (e1 : Int) (B : Option Addr) (d : Nat) (w : World) (hA : Lim w A n c xs) (hB : Lim w B n d xs) (hn : n ≤ 4398046511104) :
    Calls Tryd.prog 11 #[.agg #[.bool g, .slice A n c, .int .i64 e1], .agg #[.bool g, .slice B n d, .int .i64 e1]] w fun e w' => e = .returned (.bool true) ∧ Below w.heap.size w w' := by
  have a3 : Below w.heap.size w ((w.alloc (.cells #[.bool g, .slice A n c, .int .i64 e1] 24)).alloc (.cells #[.bool g, .slice B n d, .int .i64 e1] 24)) := ((Below.refl _ _).alloc (Nat.le_refl _) _).alloc (by simp) _
  have H1 := Lib.hid (same_yes A n c xs B d _ (hA.below a3) (hB.below a3) hn)
  have H3 := Lib.hid a3
  clear a3 hA hB
  go_enter Tryd.func11, Tryd.ntmps11
  go_wp2_with fail
  refine H1.out.mono ?_
  rintro e w' ⟨rfl, q, rfl⟩
  have Hfin := Lib.hid (below_drewN H3.out q)
  clear H1 H3
  go_wp2
  go_ret
  exact ⟨rfl, Hfin.out⟩

theorem size_four (w : World) : Calls Tryd.prog 30 #[.int .i64 (-4)] w fun e w' => e = .returned (.int .u64 4) ∧ w = w' := by
  go_enter Tryd.func30, Tryd.ntmps30
  go_wp2
  go_ret
  exact ⟨rfl, rfl⟩
theorem mk_four : mk true 4 0 = some ⟨true, 1, 2⟩ := by rfl
theorem mk_twelve : mk false (val [12]) 1 = some ⟨false, 3, 3⟩ := by rfl
theorem mk_far : mk false (val [1]) 1073741825 = none := by rfl

set_option maxHeartbeats 2000000 in
theorem of_four (w : World) (hT : Tab w) : Calls Tryd.prog 13 #[.int .i64 (-4)] w (Tells1 w true 1 1 2) := by
  have a3 := below1 w (.cells #[.bool false, .slice none 0 0, .int .i64 0] 28)
  have HT := Lib.hid (hT.below a3)
  have Hb := Lib.hid (Bd.new w 28 false none 0 0 0)
  have HS := Lib.hid a3
  clear a3 hT
  go_enter Tryd.func13, Tryd.ntmps13
  go_wp2_with fail
  refine (size_four _).mono ?_
  rintro e w' ⟨rfl, rfl⟩
  go_wp2_with fail
  refine (of_any 4 (by decide) _).mono ?_
  rintro e w1 ⟨A1, m1, c1, zs, rfl, hm1, hl1, hb1, hv1, hB1⟩
  have HM := Lib.hid (make_any true A1 m1 c1 zs 0 w1 hl1 (by omega) (HT.out.below hB1))
  rw [hv1, mk_four] at HM
  have Hb1 := Lib.hid (Hb.out.below hB1)
  have HS1 := Lib.hid (HS.out.trans (hB1.mono HS.out.size))
  clear hl1 hb1 hv1 hB1 HT Hb HS
  go_wp2_with fail
  refine HM.out.mono ?_
  rintro e w2 ⟨g2, A2, m2, c2, us, E2, r2, rfl, hm2, hl2, hb2, ⟨rfl, rfl, hz, rfl⟩, hB2⟩
  have k2 := Hb1.out.below hB2
  have Hfin : Hid (Tells1 w true 1 1 2 (.returned (.agg #[.bool true, .slice A2 m2 c2, .int .i64 2])) (World.put (w2.alloc (.cells #[.bool true, .slice A2 m2 c2, .int .i64 2] 28)) w.heap.size true A2 m2 c2 2)) :=
    ⟨A2, m2, c2, us, rfl, by omega, (k2.alloc _).lim (hl2.alloc _) _ _ _ _ _, hb2, hz, below_put ((HS1.out.trans (hB2.mono HS1.out.size)).alloc (HS1.out.trans (hB2.mono HS1.out.size)).size _) (Nat.le_refl _) _ _ _ _ _⟩
  have y0 := fun o => (k2.alloc o).c0
  have y1 := fun o => (k2.alloc o).c1
  have y2 := fun o => (k2.alloc o).c2
  have yf := fun o => (k2.alloc o).fz
  clear k2 hB2 hl2 hb2 HM Hb1 HS1 hz
  go_wp2
  exact bodyPost_ret (v := .agg #[.bool true, .slice A2 m2 c2, .int .i64 2]) (by simp [results, Tryd.results13, go_sem, y0, y1, y2]) rfl Hfin.out

theorem near_l (v : Bool) (b : Nat) (A : Option Addr) (n c : Nat) (B : Option Addr) (m d : Nat) (C : Option Addr) (p q : Nat) (w : World)
    (h1 : w.cell? ⟨b, 1, none⟩ = some (.slice A n c)) (h4 : w.cell? ⟨b, 4, none⟩ = some (.slice B m d)) (h7 : w.cell? ⟨b, 7, none⟩ = some (.slice C p q)) (hv : Hid (decide (n ≤ 20 ∧ m ≤ 20 ∧ p ≤ 20) = v)) :
    Calls Tryd.prog 5 #[.slice (some ⟨b, 0, none⟩) 3 3] w fun e w' => e = .returned (.bool v) ∧ w = w' := by
  have hv' := hv.out
  go_enter Tryd.func5, Tryd.ntmps5
  go_wp2
  go_loop [3] (fun i => ∃ k : Nat, k ≤ 3 ∧ i = .int .i64 k ∧ Hid ((0 < k → n ≤ 20) ∧ (1 < k → m ≤ 20) ∧ (2 < k → p ≤ 20))) (fun i => 3 - (intOf i).toNat)
  case atStart => exact ⟨0, by omega, rfl, by omega, by omega, by omega⟩
  case round =>
    obtain ⟨k, hk, rfl, H⟩ := hrel
    have h3 : k = 0 ∨ k = 1 ∨ k = 2 ∨ k = 3 := by omega
    have HH := H.out
    rcases h3 with rfl | rfl | rfl | rfl
    · by_cases h : n ≤ 20
      · have b1 : decide ((20 : Int) < (n : Int)) = false := decide_eq_false (by omega)
        go_wp2
        go_round
        case rel => exact ⟨1, by omega, by go_num, fun _ => h, fun _ => by omega, fun _ => by omega⟩
        case measure => simp [intOf]
      · have b1 : decide ((20 : Int) < (n : Int)) = true := decide_eq_true (by omega)
        have b2 : v = false := by rw [← hv']; exact decide_eq_false (by omega)
        subst b2
        go_wp2
        go_ret
        exact ⟨rfl, rfl⟩
    · by_cases h : m ≤ 20
      · have b1 : decide ((20 : Int) < (m : Int)) = false := decide_eq_false (by omega)
        go_wp2
        go_round
        case rel => exact ⟨2, by omega, by go_num, fun _ => HH.1 (by omega), fun _ => h, fun _ => by omega⟩
        case measure => simp [intOf]
      · have b1 : decide ((20 : Int) < (m : Int)) = true := decide_eq_true (by omega)
        have b2 : v = false := by rw [← hv']; exact decide_eq_false (by omega)
        subst b2
        go_wp2
        go_ret
        exact ⟨rfl, rfl⟩
    · by_cases h : p ≤ 20
      · have b1 : decide ((20 : Int) < (p : Int)) = false := decide_eq_false (by omega)
        go_wp2
        go_round
        case rel => exact ⟨3, by omega, by go_num, fun _ => HH.1 (by omega), fun _ => HH.2.1 (by omega), fun _ => h⟩
        case measure => simp [intOf]
      · have b1 : decide ((20 : Int) < (p : Int)) = true := decide_eq_true (by omega)
        have b2 : v = false := by rw [← hv']; exact decide_eq_false (by omega)
        subst b2
        go_wp2
        go_ret
        exact ⟨rfl, rfl⟩
    · have b2 : v = true := by rw [← hv']; exact decide_eq_true ⟨HH.1 (by omega), HH.2.1 (by omega), HH.2.2 (by omega)⟩
      subst b2
      go_wp2
      go_ret
      exact ⟨rfl, rfl⟩

set_option maxHeartbeats 400000 in
theorem dalive_any (w : World) (hT : Tab w) : Calls Tryd.prog 4 #[] w fun e w' => e = .returned (.bool true) ∧ Below w.heap.size w w' := by
  have HT := Lib.hid hT
  clear hT
  go_enter Tryd.func4, Tryd.ntmps4
  go_wp2_with fail
  have a3 := below1 w (.cells #[.int .u64 12] 36)
  have h1 := make_any false _ 1 1 [12] 1 _ (lim_new1 w 36 12 12 rfl (by decide)) (by decide) (HT.out.below a3)
  rw [mk_twelve] at h1
  have H1 := Lib.hid h1
  have H3 := Lib.hid a3
  clear h1 a3
  refine H1.out.mono ?_
  rintro e w1 ⟨g1, A1, m1, c1, q1, E1, r1, rfl, _, hl1, hb1, ⟨rfl, rfl, hv1, rfl⟩, hb⟩
  obtain rfl : q1 = [3] := bare_eq hl1.words (Words.one (by decide)) hb1 (bare_one (by decide)) (hv1.trans (by decide))
  obtain rfl : m1 = 1 := hl1.len.symm
  have Hb1 := Lib.hid ((H3.out.trans (hb.mono H3.out.size)).trans ((below1 w1 (.cells #[.bool false, .slice A1 1 c1, .int .i64 3] 28)).mono (H3.out.trans (hb.mono H3.out.size)).size))
  have Hq1 := Lib.hid (hl1.alloc (.cells #[.bool false, .slice A1 1 c1, .int .i64 3] 28))
  have Hd1 := Lib.hid (Bd.new w1 28 false A1 1 c1 3)
  clear hl1 hb1 hv1 hb H3 H1
  go_wp2_with fail
  have a3 := below1 (w1.alloc (.cells #[.bool false, .slice A1 1 c1, .int .i64 3] 28)) (.cells #[.int .u64 1] 36)
  have n1 := lim_new1 (w1.alloc (.cells #[.bool false, .slice A1 1 c1, .int .i64 3] 28)) 36 1 1 rfl (by decide)
  rw [World.size_alloc] at n1
  have h1 := make_any false _ 1 1 [1] 1073741825 _ n1 (by decide) ((HT.out.below Hb1.out).below a3)
  rw [mk_far] at h1
  have H1 := Lib.hid h1
  have H3 := Lib.hid a3
  clear h1 a3 n1
  refine H1.out.mono ?_
  rintro e w2 ⟨g2, A2, m2, c2, q2, E2, r2, rfl, _, hl2, hb2, ⟨rfl, rfl, hv2, rfl⟩, hb⟩
  have hbb := (H3.out.trans (hb.mono H3.out.size)).trans ((below1 w2 (.cells #[.bool false, .slice A2 m2 c2, .int .i64 0] 28)).mono (H3.out.trans (hb.mono H3.out.size)).size)
  have Hb2 := Lib.hid (Hb1.out.trans (hbb.mono Hb1.out.size))
  have Hq2 := Lib.hid (Hq1.out.below hbb)
  have Hd2 := Lib.hid (Hd1.out.below hbb)
  have x0 := Hd2.out.c0
  have x1 := Hd2.out.c1
  have x2 := Hd2.out.c2
  clear hl2 hb2 hv2 hb hbb H3 H1 Hb1 Hq1 Hd1
  go_wp2_with fail
  have a3 := below1 (w2.alloc (.cells #[.bool false, .slice A2 m2 c2, .int .i64 0] 28)) (.cells #[.int .u64 3] 36)
  have n1 := lim_new1 (w2.alloc (.cells #[.bool false, .slice A2 m2 c2, .int .i64 0] 28)) 36 3 3 rfl (by decide)
  rw [World.size_alloc] at n1
  have H1 := Lib.hid (dsame_yes false A1 1 c1 [3] 3 _ 1 _ (Hq2.out.below a3) n1 (by decide))
  have H3 := Lib.hid a3
  clear a3 x0 x1 x2 n1
  refine H1.out.mono ?_
  rintro e w3 ⟨rfl, hb⟩
  have hbb := H3.out.trans (hb.mono H3.out.size)
  have Hb3 := Lib.hid (Hb2.out.trans (hbb.mono Hb2.out.size))
  clear hb hbb H1 H3 Hb2 Hq2 Hd2
  go_wp2_with fail
  refine (of_four w3 (HT.out.below Hb3.out)).mono ?_
  rintro e w4 ⟨A4, m4, c4, q4, rfl, hm4, hl4, hb4, hv4, hb⟩
  have Hb4 := Lib.hid (Hb3.out.trans (hb.mono Hb3.out.size))
  have H5 := Lib.hid (sign_l (-1) true A4 m4 c4 q4 2 w4 hl4 (by omega) (by rw [hv4]; rfl))
  clear hb hl4 hb4 hv4 Hb3
  go_wp2_with fail
  refine H5.out.mono ?_
  rintro e w5 ⟨rfl, hb⟩
  have Hb5 := Lib.hid (Hb4.out.trans (hb.mono Hb4.out.size))
  clear hb H5 Hb4
  go_wp2
  go_ret
  exact ⟨rfl, Hb5.out⟩
end Go.Proofs.YtffkddnjgbgfpaaDoor
