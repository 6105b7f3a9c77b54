/- The walk of planimeterlaw06.FloatBack. -/
import Derived.Test.YtgkjlfhflndddaaDoorFlAlive
namespace Go.Proofs.YtgkjlfhflndddaaDoor
open Go.RowKit

section
variable {w : World} {b t : Nat} {g : Bool} {A : Option Addr} {n c : Nat} {e : Int}
theorem set0_heap (w : World) (b : Nat) (v : Value) (k : Nat) (hk : k ≠ b) : (w.setCell ⟨b, 0, none⟩ v).heap[k]? = w.heap[k]? := Below.heap_setCell _ _ _ _ hk
theorem set0_size (w : World) (b : Nat) (v : Value) : (w.setCell ⟨b, 0, none⟩ v).heap.size = w.heap.size := by simp [World.setCell]
theorem Bd.set0 (h : Bd w b t g A n c e) (g' : Bool) : Bd (w.setCell ⟨b, 0, none⟩ (.bool g')) b t g' A n c e := by
  unfold Bd at h ⊢
  simp [World.setCell, Array.getElem?_modify, h]
theorem Bd.set0_other (h : Bd w b t g A n c e) {b' : Nat} (hb : b ≠ b') (v : Value) : Bd (w.setCell ⟨b', 0, none⟩ v) b t g A n c e := by
  unfold Bd; rw [set0_heap _ _ _ _ hb]; exact h
theorem Bd.set0_lim (h : Bd w b t g A n c e) {A1 : Option Addr} {n1 c1 : Nat} {xs : List Nat} (hA : Lim w A1 n1 c1 xs) (v : Value) : Lim (w.setCell ⟨b, 0, none⟩ v) A1 n1 c1 xs :=
  ⟨hA.1, hA.2.1, hA.2.2.1, fun hn => by
    obtain ⟨k, o, ek, hk, hc⟩ := hA.at_ hn
    have hne : k ≠ b := by
      rintro rfl
      have := h.not (hc 0 hn)
      cases this
    exact ⟨k, o, ek, by rw [set0_size]; exact hk, fun j hj => by rw [World.cell?_of_block (w := w) (set0_heap w b v k hne)]; exact hc j hj⟩⟩
theorem Bd.set0_tab (h : Bd w b t g A n c e) (hT : Tab w) (v : Value) : Tab (w.setCell ⟨b, 0, none⟩ v) := fun j hj => by
  have hne : 0 ≠ b := by
    intro hb
    have hc := hT j hj
    rw [hb] at hc
    have := h.not hc
    cases this
  rw [World.cell?_of_block (w := w) (set0_heap w b v _ hne)]; exact hT j hj
end

theorem nO_fO {b : Nat} (h : Fnt b) : nO (fO b).neg (fO b).V (fO b).e = fO b := by
  have h1 := (mk_fine (mk_fin h)).1
  exact nO_self (nO_odd _ _ _) (by have := h1.1; omega) (by have := h1.2.1; omega)
theorem rsize_l (s b : Nat) (w : World) (hs : Hid (b % 9223372036854775808 = s)) : Calls Tryd.prog 22 #[.int .u64 (b : Int)] w fun e w' => e = .returned (.int .u64 (s : Int)) ∧ w = w' := by
  rw [← hs.out]; exact rsize_any b w

theorem fback_nn (a b : Nat) (w : World) (hT : Tab w) (ha : a < 18446744073709551616) (hb : b < 18446744073709551616) (fa : ¬ Fnt a) (fb : ¬ Fnt b) :
    Calls Tryd.prog 5 #[.int .u64 (a : Int), .int .u64 (b : Int)] w fun e w' => e = .returned (.bool true) ∧ Below w.heap.size w w' := by
  have Hf : Hid (decide (Fnt a) = false) := decide_eq_false fa
  have HT := Lib.hid hT
  clear hT
  go_enter Tryd.func5, Tryd.ntmps5
  go_wp2_with fail
  refine (falive_any w HT.out).mono ?_
  rintro e w0 ⟨rfl, hb0⟩
  have HB := Lib.hid hb0
  have HT0 := Lib.hid (HT.out.below hb0)
  clear hb0 HT
  go_wp2_with fail
  refine (fdyad_no a ha _ fa).mono ?_
  rintro e w1 ⟨rfl, hbd0⟩
  have a1 := HB.out.trans ((hbd0.trans ((below1 w1 (.cells #[.bool false, .slice none 0 0, .int .i64 0] 28)).mono hbd0.size)).mono HB.out.size)
  have HB1 := Lib.hid a1
  have HT1 := Lib.hid (HT0.out.below (hbd0.trans ((below1 w1 (.cells #[.bool false, .slice none 0 0, .int .i64 0] 28)).mono hbd0.size)))
  clear a1 HB HT0 hbd0
  go_wp2_with fail
  refine (fdyad_no b hb _ fb).mono ?_
  rintro e w2 ⟨rfl, hbd1⟩
  have Hfin := Lib.hid (HB1.out.trans ((hbd1.trans ((below1 w2 (.cells #[.bool false, .slice none 0 0, .int .i64 0] 28)).mono hbd1.size)).mono HB1.out.size))
  clear HB1 hbd1
  go_wp2_with fail
  refine (ffin_l false a ha _ Hf).mono ?_
  rintro e w' ⟨rfl, rfl⟩
  go_wp2
  go_ret
  exact ⟨rfl, Hfin.out⟩

theorem fback_ny (a b : Nat) (w : World) (hT : Tab w) (ha : a < 18446744073709551616) (hb : b < 18446744073709551616) (fa : ¬ Fnt a) (fb : Fnt b) :
    Calls Tryd.prog 5 #[.int .u64 (a : Int), .int .u64 (b : Int)] w fun e w' => e = .returned (.bool true) ∧ Below w.heap.size w w' := by
  have Hf : Hid (decide (Fnt a) = false) := decide_eq_false fa
  have HT := Lib.hid hT
  clear hT
  go_enter Tryd.func5, Tryd.ntmps5
  go_wp2_with fail
  refine (falive_any w HT.out).mono ?_
  rintro e w0 ⟨rfl, hb0⟩
  have HB := Lib.hid hb0
  have HT0 := Lib.hid (HT.out.below hb0)
  clear hb0 HT
  go_wp2_with fail
  refine (fdyad_no a ha _ fa).mono ?_
  rintro e w1 ⟨rfl, hbd0⟩
  have a1 := HB.out.trans ((hbd0.trans ((below1 w1 (.cells #[.bool false, .slice none 0 0, .int .i64 0] 28)).mono hbd0.size)).mono HB.out.size)
  have HB1 := Lib.hid a1
  have HT1 := Lib.hid (HT0.out.below (hbd0.trans ((below1 w1 (.cells #[.bool false, .slice none 0 0, .int .i64 0] 28)).mono hbd0.size)))
  clear a1 HB HT0 hbd0
  go_wp2_with fail
  refine (fdyad_yes b hb _ HT1.out fb).mono ?_
  rintro e w2 ⟨A1, m1, c1, z1, rfl, hm1, hl1, hq1, hv1, hbd1⟩
  have Hfin := Lib.hid (HB1.out.trans ((hbd1.trans ((below1 w2 (.cells #[.bool (fO b).neg, .slice A1 m1 c1, .int .i64 (fO b).e] 28)).mono hbd1.size)).mono HB1.out.size))
  clear HB1 hbd1 hl1 hq1 hv1
  go_wp2_with fail
  refine (ffin_l false a ha _ Hf).mono ?_
  rintro e w' ⟨rfl, rfl⟩
  go_wp2
  go_ret
  exact ⟨rfl, Hfin.out⟩

theorem fback_yn (a b : Nat) (w : World) (hT : Tab w) (ha : a < 18446744073709551616) (hb : b < 18446744073709551616) (fa : Fnt a) (fb : ¬ Fnt b) :
    Calls Tryd.prog 5 #[.int .u64 (a : Int), .int .u64 (b : Int)] w fun e w' => e = .returned (.bool true) ∧ Below w.heap.size w w' := by
  have Hf : Hid (decide (Fnt b) = false) := decide_eq_false fb
  have HT := Lib.hid hT
  clear hT
  go_enter Tryd.func5, Tryd.ntmps5
  go_wp2_with fail
  refine (falive_any w HT.out).mono ?_
  rintro e w0 ⟨rfl, hb0⟩
  have HB := Lib.hid hb0
  have HT0 := Lib.hid (HT.out.below hb0)
  clear hb0 HT
  go_wp2_with fail
  refine (fdyad_yes a ha _ HT0.out fa).mono ?_
  rintro e w1 ⟨A0, m0, c0, z0, rfl, hm0, hl0, hq0, hv0, hbd0⟩
  have a1 := HB.out.trans ((hbd0.trans ((below1 w1 (.cells #[.bool (fO a).neg, .slice A0 m0 c0, .int .i64 (fO a).e] 28)).mono hbd0.size)).mono HB.out.size)
  have HB1 := Lib.hid a1
  have HT1 := Lib.hid (HT0.out.below (hbd0.trans ((below1 w1 (.cells #[.bool (fO a).neg, .slice A0 m0 c0, .int .i64 (fO a).e] 28)).mono hbd0.size)))
  clear a1 HB HT0 hbd0 hl0 hq0 hv0
  go_wp2_with fail
  refine (fdyad_no b hb _ fb).mono ?_
  rintro e w2 ⟨rfl, hbd1⟩
  have Hfin := Lib.hid (HB1.out.trans ((hbd1.trans ((below1 w2 (.cells #[.bool false, .slice none 0 0, .int .i64 0] 28)).mono hbd1.size)).mono HB1.out.size))
  clear HB1 hbd1
  go_wp2_with fail
  refine (ffin_l false b hb _ Hf).mono ?_
  rintro e w' ⟨rfl, rfl⟩
  go_wp2
  go_ret
  exact ⟨rfl, Hfin.out⟩


set_option maxHeartbeats 1000000 in
set_option maxRecDepth 20000 in
theorem fback_pl (a b sa sb : Nat) (w : World) (hT : Tab w) (ha : a < 18446744073709551616) (hb : b < 18446744073709551616) (fa : Fnt a) (fb : Fnt b)
    (Hc : Hid (exD (fO a) = (a, true))) (Ha : Hid (a % 9223372036854775808 = sa)) (Hb : Hid (b % 9223372036854775808 = sb)) (o1 : sa < sb) (o2 : ((sa : Int) == (sb : Int)) = false)
    (Hv : Hid (cmpI (dw false (fO a).V (fO a).e) (dw false (fO b).V (fO b).e) = (-1))) :
    Calls Tryd.prog 5 #[.int .u64 (a : Int), .int .u64 (b : Int)] w fun e w' => e = .returned (.bool true) ∧ Below w.heap.size w w' := by
  have Hn := Lib.hid (nO_fO fa)
  have H1 : Hid (∀ w, Tab w → Calls Tryd.prog 12 #[.int .u64 (a : Int)] w (FTold w (fO a) 1)) := fun w hT => fdyad_yes a ha w hT fa
  have H2 : Hid (∀ w, Tab w → Calls Tryd.prog 12 #[.int .u64 (b : Int)] w (FTold w (fO b) 1)) := fun w hT => fdyad_yes b hb w hT fb
  clear fa fb
  generalize fO a = x at *
  generalize fO b = y at *
  obtain ⟨g0, V0, e0⟩ := x
  obtain ⟨g1, V1, e1⟩ := y
  simp only at Hn Hv
  have HT := Lib.hid hT
  clear hT
  go_enter Tryd.func5, Tryd.ntmps5
  go_wp2_with fail
  refine (falive_any w HT.out).mono ?_
  rintro e w0 ⟨rfl, hb0⟩
  have HB := Lib.hid hb0
  have HT0 := Lib.hid (HT.out.below hb0)
  clear hb0 HT
  go_wp2_with fail
  refine (H1.out _ HT0.out).mono ?_
  rintro e w1 ⟨A0, m0, c0, z0, rfl, hm0, hl0, hq0, hv0, hbd0⟩
  simp only at hv0
  have a1 := hbd0.trans ((below1 w1 (.cells #[.bool g0, .slice A0 m0 c0, .int .i64 e0] 28)).mono hbd0.size)
  have HB1 := Lib.hid (HB.out.trans (a1.mono HB.out.size))
  have HT1 := Lib.hid (HT0.out.below a1)
  have HL0 := Lib.hid (hl0.alloc (.cells #[.bool g0, .slice A0 m0 c0, .int .i64 e0] 28))
  have HD0 := Lib.hid (Bd.new w1 28 g0 A0 m0 c0 e0)
  have HS0 := Lib.hid ((HB.out.trans (hbd0.mono HB.out.size)).size)
  have HV0 := Lib.hid hv0
  clear a1 HB HT0 hbd0 hl0 hq0 hv0 H1
  go_wp2_with fail
  refine (H2.out _ HT1.out).mono ?_
  rintro e w2 ⟨A1, m1, c1, z1, rfl, hm1, hl1, hq1, hv1, hbd1⟩
  simp only at hv1
  have a1 := hbd1.trans ((below1 w2 (.cells #[.bool g1, .slice A1 m1 c1, .int .i64 e1] 28)).mono hbd1.size)
  have HB2 := Lib.hid (HB1.out.trans (a1.mono HB1.out.size))
  have HT2 := Lib.hid (HT1.out.below a1)
  have HL1 := Lib.hid (hl1.alloc (.cells #[.bool g1, .slice A1 m1 c1, .int .i64 e1] 28))
  have HD1 := Lib.hid (Bd.new w2 28 g1 A1 m1 c1 e1)
  have HL2 := Lib.hid (HL0.out.below a1)
  have HD2 := Lib.hid (HD0.out.below a1)
  have hne : w1.heap.size ≠ w2.heap.size := by
    have := hbd1.size
    rw [World.size_alloc] at this
    omega
  have HS1 := Lib.hid ((HB1.out.trans (hbd1.mono HB1.out.size)).size)
  have HV1 := Lib.hid hv1
  have H3 := Lib.hid (exact_l a true g0 A0 m0 c0 z0 e0 _ HL2.out (by omega) HT2.out (by rw [HV0.out, Hn.out]; exact Hc))
  have x0 := HD2.out.c0
  have x1 := HD2.out.c1
  have x2 := HD2.out.c2
  have Hne := Lib.hid hne
  clear a1 HB1 HT1 HL0 HD0 hbd1 hl1 hq1 hv1 H2 hne
  go_wp2_with fail
  refine H3.out.mono ?_
  rintro e w3 ⟨rfl, hb3⟩
  have HB3 := Lib.hid (HB2.out.trans (hb3.mono HB2.out.size))
  have HT3 := Lib.hid (HT2.out.below hb3)
  have HL3 := Lib.hid (HL2.out.below hb3)
  have HM3 := Lib.hid (HL1.out.below hb3)
  have HD3 := Lib.hid (HD2.out.below hb3)
  have HE3 := Lib.hid (HD1.out.below hb3)
  clear HB2 HT2 HL2 HL1 HD2 HD1 hb3 H3 x0 x1 x2
  -- the signs off
  have HB4 := Lib.hid ((HB3.out.setCell (p := ⟨w1.heap.size, 0, none⟩) HS0.out (.bool false)).setCell (p := ⟨w2.heap.size, 0, none⟩) HS1.out (.bool false))
  have E4 := HE3.out.set0_other (Ne.symm Hne.out) (.bool false)
  have HT4 := Lib.hid (E4.set0_tab (HD3.out.set0_tab HT3.out (.bool false)) (.bool false))
  have HL4 := Lib.hid (E4.set0_lim (HD3.out.set0_lim HL3.out (.bool false)) (.bool false))
  have HM4 := Lib.hid (E4.set0_lim (HD3.out.set0_lim HM3.out (.bool false)) (.bool false))
  have HD4 := Lib.hid ((HD3.out.set0 false).set0_other Hne.out (.bool false))
  have HE4 := Lib.hid (E4.set0 false)
  have u0 := HD3.out.c0
  have u1 := HE3.out.c0
  have uf := HD3.out.fz
  have vf := HE3.out.fz
  have vg := E4.fz
  have vc := E4.c0
  have y0 := HD4.out.c0
  have y1 := HD4.out.c1
  have y2 := HD4.out.c2
  have z0' := HE4.out.c0
  have z1' := HE4.out.c1
  have z2' := HE4.out.c2
  have H5 : Hid (∀ w', Tab w' → Lim w' A0 m0 c0 z0 → Lim w' A1 m1 c1 z1 → Calls Tryd.prog 23 #[.agg #[.bool false, .slice A0 m0 c0, .int .i64 e0], .agg #[.bool false, .slice A1 m1 c1, .int .i64 e1]] w' fun e w'' => e = .returned (.int .i64 (-1)) ∧ Below w'.heap.size w' w'') :=
    fun w' h1 h2 h3 => dcmp_l (-1) false A0 m0 c0 z0 e0 false A1 m1 c1 z1 e1 w' h2 h3 (by omega) (by omega) h1 (by rw [HV0.out, HV1.out]; exact Hv)
  clear HB3 HT3 HL3 HM3 HD3 HE3 E4 Hv Hc Hn HS0 HS1 HV0 HV1
  go_wp2_with fail
  refine (rsize_l sa a _ Ha).mono ?_
  rintro e w' ⟨rfl, rfl⟩
  go_wp2_with fail
  refine (rsize_l sb b _ Hb).mono ?_
  rintro e w' ⟨rfl, rfl⟩
  go_wp2_with fail
  refine (H5.out _ HT4.out HL4.out HM4.out).mono ?_
  rintro e w4 ⟨rfl, hb5⟩
  have HB5 := Lib.hid (HB4.out.trans (hb5.mono HB4.out.size))
  have H6 := Lib.hid (H5.out _ (HT4.out.below hb5) (HL4.out.below hb5) (HM4.out.below hb5))
  have D5 := HD4.out.below hb5
  have E5 := HE4.out.below hb5
  have r0 := D5.c0
  have r1 := D5.c1
  have r2 := D5.c2
  have s0 := E5.c0
  have s1 := E5.c1
  have s2 := E5.c2
  clear D5 E5 HB4 hb5 HT4 HL4 HM4 HD4 HE4 H5 y0 y1 y2 z0' z1' z2' u0 u1 uf vf vg vc
  go_wp2_with fail
  refine H6.out.mono ?_
  rintro e w5 ⟨rfl, hb6⟩
  have Hfin := Lib.hid (HB5.out.trans (hb6.mono HB5.out.size))
  clear HB5 hb6 H6
  go_wp2
  go_ret
  exact ⟨rfl, Hfin.out⟩

set_option maxHeartbeats 1000000 in
set_option maxRecDepth 20000 in
theorem fback_pe (a b sa : Nat) (w : World) (hT : Tab w) (ha : a < 18446744073709551616) (hb : b < 18446744073709551616) (fa : Fnt a) (fb : Fnt b)
    (Hc : Hid (exD (fO a) = (a, true))) (Ha : Hid (a % 9223372036854775808 = sa)) (Hb : Hid (b % 9223372036854775808 = sa)) 
    (Hv : Hid (cmpI (dw false (fO a).V (fO a).e) (dw false (fO b).V (fO b).e) = 0)) :
    Calls Tryd.prog 5 #[.int .u64 (a : Int), .int .u64 (b : Int)] w fun e w' => e = .returned (.bool true) ∧ Below w.heap.size w w' := by
  have Hn := Lib.hid (nO_fO fa)
  have H1 : Hid (∀ w, Tab w → Calls Tryd.prog 12 #[.int .u64 (a : Int)] w (FTold w (fO a) 1)) := fun w hT => fdyad_yes a ha w hT fa
  have H2 : Hid (∀ w, Tab w → Calls Tryd.prog 12 #[.int .u64 (b : Int)] w (FTold w (fO b) 1)) := fun w hT => fdyad_yes b hb w hT fb
  clear fa fb
  generalize fO a = x at *
  generalize fO b = y at *
  obtain ⟨g0, V0, e0⟩ := x
  obtain ⟨g1, V1, e1⟩ := y
  simp only at Hn Hv
  have HT := Lib.hid hT
  clear hT
  go_enter Tryd.func5, Tryd.ntmps5
  go_wp2_with fail
  refine (falive_any w HT.out).mono ?_
  rintro e w0 ⟨rfl, hb0⟩
  have HB := Lib.hid hb0
  have HT0 := Lib.hid (HT.out.below hb0)
  clear hb0 HT
  go_wp2_with fail
  refine (H1.out _ HT0.out).mono ?_
  rintro e w1 ⟨A0, m0, c0, z0, rfl, hm0, hl0, hq0, hv0, hbd0⟩
  simp only at hv0
  have a1 := hbd0.trans ((below1 w1 (.cells #[.bool g0, .slice A0 m0 c0, .int .i64 e0] 28)).mono hbd0.size)
  have HB1 := Lib.hid (HB.out.trans (a1.mono HB.out.size))
  have HT1 := Lib.hid (HT0.out.below a1)
  have HL0 := Lib.hid (hl0.alloc (.cells #[.bool g0, .slice A0 m0 c0, .int .i64 e0] 28))
  have HD0 := Lib.hid (Bd.new w1 28 g0 A0 m0 c0 e0)
  have HS0 := Lib.hid ((HB.out.trans (hbd0.mono HB.out.size)).size)
  have HV0 := Lib.hid hv0
  clear a1 HB HT0 hbd0 hl0 hq0 hv0 H1
  go_wp2_with fail
  refine (H2.out _ HT1.out).mono ?_
  rintro e w2 ⟨A1, m1, c1, z1, rfl, hm1, hl1, hq1, hv1, hbd1⟩
  simp only at hv1
  have a1 := hbd1.trans ((below1 w2 (.cells #[.bool g1, .slice A1 m1 c1, .int .i64 e1] 28)).mono hbd1.size)
  have HB2 := Lib.hid (HB1.out.trans (a1.mono HB1.out.size))
  have HT2 := Lib.hid (HT1.out.below a1)
  have HL1 := Lib.hid (hl1.alloc (.cells #[.bool g1, .slice A1 m1 c1, .int .i64 e1] 28))
  have HD1 := Lib.hid (Bd.new w2 28 g1 A1 m1 c1 e1)
  have HL2 := Lib.hid (HL0.out.below a1)
  have HD2 := Lib.hid (HD0.out.below a1)
  have hne : w1.heap.size ≠ w2.heap.size := by
    have := hbd1.size
    rw [World.size_alloc] at this
    omega
  have HS1 := Lib.hid ((HB1.out.trans (hbd1.mono HB1.out.size)).size)
  have HV1 := Lib.hid hv1
  have H3 := Lib.hid (exact_l a true g0 A0 m0 c0 z0 e0 _ HL2.out (by omega) HT2.out (by rw [HV0.out, Hn.out]; exact Hc))
  have x0 := HD2.out.c0
  have x1 := HD2.out.c1
  have x2 := HD2.out.c2
  have Hne := Lib.hid hne
  clear a1 HB1 HT1 HL0 HD0 hbd1 hl1 hq1 hv1 H2 hne
  go_wp2_with fail
  refine H3.out.mono ?_
  rintro e w3 ⟨rfl, hb3⟩
  have HB3 := Lib.hid (HB2.out.trans (hb3.mono HB2.out.size))
  have HT3 := Lib.hid (HT2.out.below hb3)
  have HL3 := Lib.hid (HL2.out.below hb3)
  have HM3 := Lib.hid (HL1.out.below hb3)
  have HD3 := Lib.hid (HD2.out.below hb3)
  have HE3 := Lib.hid (HD1.out.below hb3)
  clear HB2 HT2 HL2 HL1 HD2 HD1 hb3 H3 x0 x1 x2
  -- the signs off
  have HB4 := Lib.hid ((HB3.out.setCell (p := ⟨w1.heap.size, 0, none⟩) HS0.out (.bool false)).setCell (p := ⟨w2.heap.size, 0, none⟩) HS1.out (.bool false))
  have E4 := HE3.out.set0_other (Ne.symm Hne.out) (.bool false)
  have HT4 := Lib.hid (E4.set0_tab (HD3.out.set0_tab HT3.out (.bool false)) (.bool false))
  have HL4 := Lib.hid (E4.set0_lim (HD3.out.set0_lim HL3.out (.bool false)) (.bool false))
  have HM4 := Lib.hid (E4.set0_lim (HD3.out.set0_lim HM3.out (.bool false)) (.bool false))
  have HD4 := Lib.hid ((HD3.out.set0 false).set0_other Hne.out (.bool false))
  have HE4 := Lib.hid (E4.set0 false)
  have u0 := HD3.out.c0
  have u1 := HE3.out.c0
  have uf := HD3.out.fz
  have vf := HE3.out.fz
  have vg := E4.fz
  have vc := E4.c0
  have y0 := HD4.out.c0
  have y1 := HD4.out.c1
  have y2 := HD4.out.c2
  have z0' := HE4.out.c0
  have z1' := HE4.out.c1
  have z2' := HE4.out.c2
  have H5 : Hid (∀ w', Tab w' → Lim w' A0 m0 c0 z0 → Lim w' A1 m1 c1 z1 → Calls Tryd.prog 23 #[.agg #[.bool false, .slice A0 m0 c0, .int .i64 e0], .agg #[.bool false, .slice A1 m1 c1, .int .i64 e1]] w' fun e w'' => e = .returned (.int .i64 0) ∧ Below w'.heap.size w' w'') :=
    fun w' h1 h2 h3 => dcmp_l 0 false A0 m0 c0 z0 e0 false A1 m1 c1 z1 e1 w' h2 h3 (by omega) (by omega) h1 (by rw [HV0.out, HV1.out]; exact Hv)
  clear HB3 HT3 HL3 HM3 HD3 HE3 E4 Hv Hc Hn HS0 HS1 HV0 HV1
  go_wp2_with fail
  refine (rsize_l sa a _ Ha).mono ?_
  rintro e w' ⟨rfl, rfl⟩
  go_wp2_with fail
  refine (rsize_l sa b _ Hb).mono ?_
  rintro e w' ⟨rfl, rfl⟩
  go_wp2_with fail
  refine (H5.out _ HT4.out HL4.out HM4.out).mono ?_
  rintro e w4 ⟨rfl, hb5⟩
  have HB5 := Lib.hid (HB4.out.trans (hb5.mono HB4.out.size))
  have H6 := Lib.hid (H5.out _ (HT4.out.below hb5) (HL4.out.below hb5) (HM4.out.below hb5))
  have D5 := HD4.out.below hb5
  have E5 := HE4.out.below hb5
  have r0 := D5.c0
  have r1 := D5.c1
  have r2 := D5.c2
  have s0 := E5.c0
  have s1 := E5.c1
  have s2 := E5.c2
  clear D5 E5 HB4 hb5 HT4 HL4 HM4 HD4 HE4 H5 y0 y1 y2 z0' z1' z2' u0 u1 uf vf vg vc
  go_wp2_with fail
  refine H6.out.mono ?_
  rintro e w5 ⟨rfl, hb6⟩
  have Hfin := Lib.hid (HB5.out.trans (hb6.mono HB5.out.size))
  clear HB5 hb6 H6
  go_wp2
  go_ret
  exact ⟨rfl, Hfin.out⟩

set_option maxHeartbeats 1000000 in
set_option maxRecDepth 20000 in
theorem fback_pg (a b sa sb : Nat) (w : World) (hT : Tab w) (ha : a < 18446744073709551616) (hb : b < 18446744073709551616) (fa : Fnt a) (fb : Fnt b)
    (Hc : Hid (exD (fO a) = (a, true))) (Ha : Hid (a % 9223372036854775808 = sa)) (Hb : Hid (b % 9223372036854775808 = sb)) (o1 : decide (sa < sb) = false) (o2 : ((sa : Int) == (sb : Int)) = false)
    (Hv : Hid (cmpI (dw false (fO a).V (fO a).e) (dw false (fO b).V (fO b).e) = 1)) :
    Calls Tryd.prog 5 #[.int .u64 (a : Int), .int .u64 (b : Int)] w fun e w' => e = .returned (.bool true) ∧ Below w.heap.size w w' := by
  have Hn := Lib.hid (nO_fO fa)
  have H1 : Hid (∀ w, Tab w → Calls Tryd.prog 12 #[.int .u64 (a : Int)] w (FTold w (fO a) 1)) := fun w hT => fdyad_yes a ha w hT fa
  have H2 : Hid (∀ w, Tab w → Calls Tryd.prog 12 #[.int .u64 (b : Int)] w (FTold w (fO b) 1)) := fun w hT => fdyad_yes b hb w hT fb
  clear fa fb
  generalize fO a = x at *
  generalize fO b = y at *
  obtain ⟨g0, V0, e0⟩ := x
  obtain ⟨g1, V1, e1⟩ := y
  simp only at Hn Hv
  have HT := Lib.hid hT
  clear hT
  go_enter Tryd.func5, Tryd.ntmps5
  go_wp2_with fail
  refine (falive_any w HT.out).mono ?_
  rintro e w0 ⟨rfl, hb0⟩
  have HB := Lib.hid hb0
  have HT0 := Lib.hid (HT.out.below hb0)
  clear hb0 HT
  go_wp2_with fail
  refine (H1.out _ HT0.out).mono ?_
  rintro e w1 ⟨A0, m0, c0, z0, rfl, hm0, hl0, hq0, hv0, hbd0⟩
  simp only at hv0
  have a1 := hbd0.trans ((below1 w1 (.cells #[.bool g0, .slice A0 m0 c0, .int .i64 e0] 28)).mono hbd0.size)
  have HB1 := Lib.hid (HB.out.trans (a1.mono HB.out.size))
  have HT1 := Lib.hid (HT0.out.below a1)
  have HL0 := Lib.hid (hl0.alloc (.cells #[.bool g0, .slice A0 m0 c0, .int .i64 e0] 28))
  have HD0 := Lib.hid (Bd.new w1 28 g0 A0 m0 c0 e0)
  have HS0 := Lib.hid ((HB.out.trans (hbd0.mono HB.out.size)).size)
  have HV0 := Lib.hid hv0
  clear a1 HB HT0 hbd0 hl0 hq0 hv0 H1
  go_wp2_with fail
  refine (H2.out _ HT1.out).mono ?_
  rintro e w2 ⟨A1, m1, c1, z1, rfl, hm1, hl1, hq1, hv1, hbd1⟩
  simp only at hv1
  have a1 := hbd1.trans ((below1 w2 (.cells #[.bool g1, .slice A1 m1 c1, .int .i64 e1] 28)).mono hbd1.size)
  have HB2 := Lib.hid (HB1.out.trans (a1.mono HB1.out.size))
  have HT2 := Lib.hid (HT1.out.below a1)
  have HL1 := Lib.hid (hl1.alloc (.cells #[.bool g1, .slice A1 m1 c1, .int .i64 e1] 28))
  have HD1 := Lib.hid (Bd.new w2 28 g1 A1 m1 c1 e1)
  have HL2 := Lib.hid (HL0.out.below a1)
  have HD2 := Lib.hid (HD0.out.below a1)
  have hne : w1.heap.size ≠ w2.heap.size := by
    have := hbd1.size
    rw [World.size_alloc] at this
    omega
  have HS1 := Lib.hid ((HB1.out.trans (hbd1.mono HB1.out.size)).size)
  have HV1 := Lib.hid hv1
  have H3 := Lib.hid (exact_l a true g0 A0 m0 c0 z0 e0 _ HL2.out (by omega) HT2.out (by rw [HV0.out, Hn.out]; exact Hc))
  have x0 := HD2.out.c0
  have x1 := HD2.out.c1
  have x2 := HD2.out.c2
  have Hne := Lib.hid hne
  clear a1 HB1 HT1 HL0 HD0 hbd1 hl1 hq1 hv1 H2 hne
  go_wp2_with fail
  refine H3.out.mono ?_
  rintro e w3 ⟨rfl, hb3⟩
  have HB3 := Lib.hid (HB2.out.trans (hb3.mono HB2.out.size))
  have HT3 := Lib.hid (HT2.out.below hb3)
  have HL3 := Lib.hid (HL2.out.below hb3)
  have HM3 := Lib.hid (HL1.out.below hb3)
  have HD3 := Lib.hid (HD2.out.below hb3)
  have HE3 := Lib.hid (HD1.out.below hb3)
  clear HB2 HT2 HL2 HL1 HD2 HD1 hb3 H3 x0 x1 x2
  -- the signs off
  have HB4 := Lib.hid ((HB3.out.setCell (p := ⟨w1.heap.size, 0, none⟩) HS0.out (.bool false)).setCell (p := ⟨w2.heap.size, 0, none⟩) HS1.out (.bool false))
  have E4 := HE3.out.set0_other (Ne.symm Hne.out) (.bool false)
  have HT4 := Lib.hid (E4.set0_tab (HD3.out.set0_tab HT3.out (.bool false)) (.bool false))
  have HL4 := Lib.hid (E4.set0_lim (HD3.out.set0_lim HL3.out (.bool false)) (.bool false))
  have HM4 := Lib.hid (E4.set0_lim (HD3.out.set0_lim HM3.out (.bool false)) (.bool false))
  have HD4 := Lib.hid ((HD3.out.set0 false).set0_other Hne.out (.bool false))
  have HE4 := Lib.hid (E4.set0 false)
  have u0 := HD3.out.c0
  have u1 := HE3.out.c0
  have uf := HD3.out.fz
  have vf := HE3.out.fz
  have vg := E4.fz
  have vc := E4.c0
  have y0 := HD4.out.c0
  have y1 := HD4.out.c1
  have y2 := HD4.out.c2
  have z0' := HE4.out.c0
  have z1' := HE4.out.c1
  have z2' := HE4.out.c2
  have H5 : Hid (∀ w', Tab w' → Lim w' A0 m0 c0 z0 → Lim w' A1 m1 c1 z1 → Calls Tryd.prog 23 #[.agg #[.bool false, .slice A0 m0 c0, .int .i64 e0], .agg #[.bool false, .slice A1 m1 c1, .int .i64 e1]] w' fun e w'' => e = .returned (.int .i64 1) ∧ Below w'.heap.size w' w'') :=
    fun w' h1 h2 h3 => dcmp_l 1 false A0 m0 c0 z0 e0 false A1 m1 c1 z1 e1 w' h2 h3 (by omega) (by omega) h1 (by rw [HV0.out, HV1.out]; exact Hv)
  clear HB3 HT3 HL3 HM3 HD3 HE3 E4 Hv Hc Hn HS0 HS1 HV0 HV1
  go_wp2_with fail
  refine (rsize_l sa a _ Ha).mono ?_
  rintro e w' ⟨rfl, rfl⟩
  go_wp2_with fail
  refine (rsize_l sb b _ Hb).mono ?_
  rintro e w' ⟨rfl, rfl⟩
  go_wp2_with fail
  refine (H5.out _ HT4.out HL4.out HM4.out).mono ?_
  rintro e w4 ⟨rfl, hb5⟩
  have HB5 := Lib.hid (HB4.out.trans (hb5.mono HB4.out.size))
  have H6 := Lib.hid (H5.out _ (HT4.out.below hb5) (HL4.out.below hb5) (HM4.out.below hb5))
  have D5 := HD4.out.below hb5
  have E5 := HE4.out.below hb5
  have r0 := D5.c0
  have r1 := D5.c1
  have r2 := D5.c2
  have s0 := E5.c0
  have s1 := E5.c1
  have s2 := E5.c2
  clear D5 E5 HB4 hb5 HT4 HL4 HM4 HD4 HE4 H5 y0 y1 y2 z0' z1' z2' u0 u1 uf vf vg vc
  go_wp2_with fail
  refine H6.out.mono ?_
  rintro e w5 ⟨rfl, hb6⟩
  have Hfin := Lib.hid (HB5.out.trans (hb6.mono HB5.out.size))
  clear HB5 hb6 H6
  go_wp2
  go_ret
  exact ⟨rfl, Hfin.out⟩

set_option maxHeartbeats 1000000 in
set_option maxRecDepth 20000 in
theorem fback_sl (b sa sb : Nat) (w : World) (hT : Tab w) (ha : 9223372036854775808 < 18446744073709551616) (hb : b < 18446744073709551616) (fa : Fnt 9223372036854775808) (fb : Fnt b)
    (Hc : Hid (exD (fO 9223372036854775808) = (0, true))) (Ha : Hid (9223372036854775808 % 9223372036854775808 = sa)) (Hb : Hid (b % 9223372036854775808 = sb)) (o1 : sa < sb) (o2 : ((sa : Int) == (sb : Int)) = false)
    (Hv : Hid (cmpI (dw false (fO 9223372036854775808).V (fO 9223372036854775808).e) (dw false (fO b).V (fO b).e) = (-1))) :
    Calls Tryd.prog 5 #[.int .u64 9223372036854775808, .int .u64 (b : Int)] w fun e w' => e = .returned (.bool true) ∧ Below w.heap.size w w' := by
  have Hn := Lib.hid (nO_fO fa)
  have H1 : Hid (∀ w, Tab w → Calls Tryd.prog 12 #[.int .u64 9223372036854775808] w (FTold w (fO 9223372036854775808) 1)) := fun w hT => fdyad_yes 9223372036854775808 ha w hT fa
  have H2 : Hid (∀ w, Tab w → Calls Tryd.prog 12 #[.int .u64 (b : Int)] w (FTold w (fO b) 1)) := fun w hT => fdyad_yes b hb w hT fb
  clear fa fb
  generalize fO 9223372036854775808 = x at *
  generalize fO b = y at *
  obtain ⟨g0, V0, e0⟩ := x
  obtain ⟨g1, V1, e1⟩ := y
  simp only at Hn Hv
  have HT := Lib.hid hT
  clear hT
  go_enter Tryd.func5, Tryd.ntmps5
  go_wp2_with fail
  refine (falive_any w HT.out).mono ?_
  rintro e w0 ⟨rfl, hb0⟩
  have HB := Lib.hid hb0
  have HT0 := Lib.hid (HT.out.below hb0)
  clear hb0 HT
  go_wp2_with fail
  refine (H1.out _ HT0.out).mono ?_
  rintro e w1 ⟨A0, m0, c0, z0, rfl, hm0, hl0, hq0, hv0, hbd0⟩
  simp only at hv0
  have a1 := hbd0.trans ((below1 w1 (.cells #[.bool g0, .slice A0 m0 c0, .int .i64 e0] 28)).mono hbd0.size)
  have HB1 := Lib.hid (HB.out.trans (a1.mono HB.out.size))
  have HT1 := Lib.hid (HT0.out.below a1)
  have HL0 := Lib.hid (hl0.alloc (.cells #[.bool g0, .slice A0 m0 c0, .int .i64 e0] 28))
  have HD0 := Lib.hid (Bd.new w1 28 g0 A0 m0 c0 e0)
  have HS0 := Lib.hid ((HB.out.trans (hbd0.mono HB.out.size)).size)
  have HV0 := Lib.hid hv0
  clear a1 HB HT0 hbd0 hl0 hq0 hv0 H1
  go_wp2_with fail
  refine (H2.out _ HT1.out).mono ?_
  rintro e w2 ⟨A1, m1, c1, z1, rfl, hm1, hl1, hq1, hv1, hbd1⟩
  simp only at hv1
  have a1 := hbd1.trans ((below1 w2 (.cells #[.bool g1, .slice A1 m1 c1, .int .i64 e1] 28)).mono hbd1.size)
  have HB2 := Lib.hid (HB1.out.trans (a1.mono HB1.out.size))
  have HT2 := Lib.hid (HT1.out.below a1)
  have HL1 := Lib.hid (hl1.alloc (.cells #[.bool g1, .slice A1 m1 c1, .int .i64 e1] 28))
  have HD1 := Lib.hid (Bd.new w2 28 g1 A1 m1 c1 e1)
  have HL2 := Lib.hid (HL0.out.below a1)
  have HD2 := Lib.hid (HD0.out.below a1)
  have hne : w1.heap.size ≠ w2.heap.size := by
    have := hbd1.size
    rw [World.size_alloc] at this
    omega
  have HS1 := Lib.hid ((HB1.out.trans (hbd1.mono HB1.out.size)).size)
  have HV1 := Lib.hid hv1
  have H3 := Lib.hid (exact_l 0 true g0 A0 m0 c0 z0 e0 _ HL2.out (by omega) HT2.out (by rw [HV0.out, Hn.out]; exact Hc))
  have x0 := HD2.out.c0
  have x1 := HD2.out.c1
  have x2 := HD2.out.c2
  have Hne := Lib.hid hne
  clear a1 HB1 HT1 HL0 HD0 hbd1 hl1 hq1 hv1 H2 hne
  go_wp2_with fail
  refine H3.out.mono ?_
  rintro e w3 ⟨rfl, hb3⟩
  have HB3 := Lib.hid (HB2.out.trans (hb3.mono HB2.out.size))
  have HT3 := Lib.hid (HT2.out.below hb3)
  have HL3 := Lib.hid (HL2.out.below hb3)
  have HM3 := Lib.hid (HL1.out.below hb3)
  have HD3 := Lib.hid (HD2.out.below hb3)
  have HE3 := Lib.hid (HD1.out.below hb3)
  clear HB2 HT2 HL2 HL1 HD2 HD1 hb3 H3 x0 x1 x2
  -- the signs off
  have HB4 := Lib.hid ((HB3.out.setCell (p := ⟨w1.heap.size, 0, none⟩) HS0.out (.bool false)).setCell (p := ⟨w2.heap.size, 0, none⟩) HS1.out (.bool false))
  have E4 := HE3.out.set0_other (Ne.symm Hne.out) (.bool false)
  have HT4 := Lib.hid (E4.set0_tab (HD3.out.set0_tab HT3.out (.bool false)) (.bool false))
  have HL4 := Lib.hid (E4.set0_lim (HD3.out.set0_lim HL3.out (.bool false)) (.bool false))
  have HM4 := Lib.hid (E4.set0_lim (HD3.out.set0_lim HM3.out (.bool false)) (.bool false))
  have HD4 := Lib.hid ((HD3.out.set0 false).set0_other Hne.out (.bool false))
  have HE4 := Lib.hid (E4.set0 false)
  have u0 := HD3.out.c0
  have u1 := HE3.out.c0
  have uf := HD3.out.fz
  have vf := HE3.out.fz
  have vg := E4.fz
  have vc := E4.c0
  have y0 := HD4.out.c0
  have y1 := HD4.out.c1
  have y2 := HD4.out.c2
  have z0' := HE4.out.c0
  have z1' := HE4.out.c1
  have z2' := HE4.out.c2
  have H5 : Hid (∀ w', Tab w' → Lim w' A0 m0 c0 z0 → Lim w' A1 m1 c1 z1 → Calls Tryd.prog 23 #[.agg #[.bool false, .slice A0 m0 c0, .int .i64 e0], .agg #[.bool false, .slice A1 m1 c1, .int .i64 e1]] w' fun e w'' => e = .returned (.int .i64 (-1)) ∧ Below w'.heap.size w' w'') :=
    fun w' h1 h2 h3 => dcmp_l (-1) false A0 m0 c0 z0 e0 false A1 m1 c1 z1 e1 w' h2 h3 (by omega) (by omega) h1 (by rw [HV0.out, HV1.out]; exact Hv)
  clear HB3 HT3 HL3 HM3 HD3 HE3 E4 Hv Hc Hn HS0 HS1 HV0 HV1
  go_wp2_with fail
  refine (rsize_l sa 9223372036854775808 _ Ha).mono ?_
  rintro e w' ⟨rfl, rfl⟩
  go_wp2_with fail
  refine (rsize_l sb b _ Hb).mono ?_
  rintro e w' ⟨rfl, rfl⟩
  go_wp2_with fail
  refine (H5.out _ HT4.out HL4.out HM4.out).mono ?_
  rintro e w4 ⟨rfl, hb5⟩
  have HB5 := Lib.hid (HB4.out.trans (hb5.mono HB4.out.size))
  have H6 := Lib.hid (H5.out _ (HT4.out.below hb5) (HL4.out.below hb5) (HM4.out.below hb5))
  have D5 := HD4.out.below hb5
  have E5 := HE4.out.below hb5
  have r0 := D5.c0
  have r1 := D5.c1
  have r2 := D5.c2
  have s0 := E5.c0
  have s1 := E5.c1
  have s2 := E5.c2
  clear D5 E5 HB4 hb5 HT4 HL4 HM4 HD4 HE4 H5 y0 y1 y2 z0' z1' z2' u0 u1 uf vf vg vc
  go_wp2_with fail
  refine H6.out.mono ?_
  rintro e w5 ⟨rfl, hb6⟩
  have Hfin := Lib.hid (HB5.out.trans (hb6.mono HB5.out.size))
  clear HB5 hb6 H6
  go_wp2
  go_ret
  exact ⟨rfl, Hfin.out⟩

set_option maxHeartbeats 1000000 in
set_option maxRecDepth 20000 in
theorem fback_se (b sa : Nat) (w : World) (hT : Tab w) (ha : 9223372036854775808 < 18446744073709551616) (hb : b < 18446744073709551616) (fa : Fnt 9223372036854775808) (fb : Fnt b)
    (Hc : Hid (exD (fO 9223372036854775808) = (0, true))) (Ha : Hid (9223372036854775808 % 9223372036854775808 = sa)) (Hb : Hid (b % 9223372036854775808 = sa)) 
    (Hv : Hid (cmpI (dw false (fO 9223372036854775808).V (fO 9223372036854775808).e) (dw false (fO b).V (fO b).e) = 0)) :
    Calls Tryd.prog 5 #[.int .u64 9223372036854775808, .int .u64 (b : Int)] w fun e w' => e = .returned (.bool true) ∧ Below w.heap.size w w' := by
  have Hn := Lib.hid (nO_fO fa)
  have H1 : Hid (∀ w, Tab w → Calls Tryd.prog 12 #[.int .u64 9223372036854775808] w (FTold w (fO 9223372036854775808) 1)) := fun w hT => fdyad_yes 9223372036854775808 ha w hT fa
  have H2 : Hid (∀ w, Tab w → Calls Tryd.prog 12 #[.int .u64 (b : Int)] w (FTold w (fO b) 1)) := fun w hT => fdyad_yes b hb w hT fb
  clear fa fb
  generalize fO 9223372036854775808 = x at *
  generalize fO b = y at *
  obtain ⟨g0, V0, e0⟩ := x
  obtain ⟨g1, V1, e1⟩ := y
  simp only at Hn Hv
  have HT := Lib.hid hT
  clear hT
  go_enter Tryd.func5, Tryd.ntmps5
  go_wp2_with fail
  refine (falive_any w HT.out).mono ?_
  rintro e w0 ⟨rfl, hb0⟩
  have HB := Lib.hid hb0
  have HT0 := Lib.hid (HT.out.below hb0)
  clear hb0 HT
  go_wp2_with fail
  refine (H1.out _ HT0.out).mono ?_
  rintro e w1 ⟨A0, m0, c0, z0, rfl, hm0, hl0, hq0, hv0, hbd0⟩
  simp only at hv0
  have a1 := hbd0.trans ((below1 w1 (.cells #[.bool g0, .slice A0 m0 c0, .int .i64 e0] 28)).mono hbd0.size)
  have HB1 := Lib.hid (HB.out.trans (a1.mono HB.out.size))
  have HT1 := Lib.hid (HT0.out.below a1)
  have HL0 := Lib.hid (hl0.alloc (.cells #[.bool g0, .slice A0 m0 c0, .int .i64 e0] 28))
  have HD0 := Lib.hid (Bd.new w1 28 g0 A0 m0 c0 e0)
  have HS0 := Lib.hid ((HB.out.trans (hbd0.mono HB.out.size)).size)
  have HV0 := Lib.hid hv0
  clear a1 HB HT0 hbd0 hl0 hq0 hv0 H1
  go_wp2_with fail
  refine (H2.out _ HT1.out).mono ?_
  rintro e w2 ⟨A1, m1, c1, z1, rfl, hm1, hl1, hq1, hv1, hbd1⟩
  simp only at hv1
  have a1 := hbd1.trans ((below1 w2 (.cells #[.bool g1, .slice A1 m1 c1, .int .i64 e1] 28)).mono hbd1.size)
  have HB2 := Lib.hid (HB1.out.trans (a1.mono HB1.out.size))
  have HT2 := Lib.hid (HT1.out.below a1)
  have HL1 := Lib.hid (hl1.alloc (.cells #[.bool g1, .slice A1 m1 c1, .int .i64 e1] 28))
  have HD1 := Lib.hid (Bd.new w2 28 g1 A1 m1 c1 e1)
  have HL2 := Lib.hid (HL0.out.below a1)
  have HD2 := Lib.hid (HD0.out.below a1)
  have hne : w1.heap.size ≠ w2.heap.size := by
    have := hbd1.size
    rw [World.size_alloc] at this
    omega
  have HS1 := Lib.hid ((HB1.out.trans (hbd1.mono HB1.out.size)).size)
  have HV1 := Lib.hid hv1
  have H3 := Lib.hid (exact_l 0 true g0 A0 m0 c0 z0 e0 _ HL2.out (by omega) HT2.out (by rw [HV0.out, Hn.out]; exact Hc))
  have x0 := HD2.out.c0
  have x1 := HD2.out.c1
  have x2 := HD2.out.c2
  have Hne := Lib.hid hne
  clear a1 HB1 HT1 HL0 HD0 hbd1 hl1 hq1 hv1 H2 hne
  go_wp2_with fail
  refine H3.out.mono ?_
  rintro e w3 ⟨rfl, hb3⟩
  have HB3 := Lib.hid (HB2.out.trans (hb3.mono HB2.out.size))
  have HT3 := Lib.hid (HT2.out.below hb3)
  have HL3 := Lib.hid (HL2.out.below hb3)
  have HM3 := Lib.hid (HL1.out.below hb3)
  have HD3 := Lib.hid (HD2.out.below hb3)
  have HE3 := Lib.hid (HD1.out.below hb3)
  clear HB2 HT2 HL2 HL1 HD2 HD1 hb3 H3 x0 x1 x2
  -- the signs off
  have HB4 := Lib.hid ((HB3.out.setCell (p := ⟨w1.heap.size, 0, none⟩) HS0.out (.bool false)).setCell (p := ⟨w2.heap.size, 0, none⟩) HS1.out (.bool false))
  have E4 := HE3.out.set0_other (Ne.symm Hne.out) (.bool false)
  have HT4 := Lib.hid (E4.set0_tab (HD3.out.set0_tab HT3.out (.bool false)) (.bool false))
  have HL4 := Lib.hid (E4.set0_lim (HD3.out.set0_lim HL3.out (.bool false)) (.bool false))
  have HM4 := Lib.hid (E4.set0_lim (HD3.out.set0_lim HM3.out (.bool false)) (.bool false))
  have HD4 := Lib.hid ((HD3.out.set0 false).set0_other Hne.out (.bool false))
  have HE4 := Lib.hid (E4.set0 false)
  have u0 := HD3.out.c0
  have u1 := HE3.out.c0
  have uf := HD3.out.fz
  have vf := HE3.out.fz
  have vg := E4.fz
  have vc := E4.c0
  have y0 := HD4.out.c0
  have y1 := HD4.out.c1
  have y2 := HD4.out.c2
  have z0' := HE4.out.c0
  have z1' := HE4.out.c1
  have z2' := HE4.out.c2
  have H5 : Hid (∀ w', Tab w' → Lim w' A0 m0 c0 z0 → Lim w' A1 m1 c1 z1 → Calls Tryd.prog 23 #[.agg #[.bool false, .slice A0 m0 c0, .int .i64 e0], .agg #[.bool false, .slice A1 m1 c1, .int .i64 e1]] w' fun e w'' => e = .returned (.int .i64 0) ∧ Below w'.heap.size w' w'') :=
    fun w' h1 h2 h3 => dcmp_l 0 false A0 m0 c0 z0 e0 false A1 m1 c1 z1 e1 w' h2 h3 (by omega) (by omega) h1 (by rw [HV0.out, HV1.out]; exact Hv)
  clear HB3 HT3 HL3 HM3 HD3 HE3 E4 Hv Hc Hn HS0 HS1 HV0 HV1
  go_wp2_with fail
  refine (rsize_l sa 9223372036854775808 _ Ha).mono ?_
  rintro e w' ⟨rfl, rfl⟩
  go_wp2_with fail
  refine (rsize_l sa b _ Hb).mono ?_
  rintro e w' ⟨rfl, rfl⟩
  go_wp2_with fail
  refine (H5.out _ HT4.out HL4.out HM4.out).mono ?_
  rintro e w4 ⟨rfl, hb5⟩
  have HB5 := Lib.hid (HB4.out.trans (hb5.mono HB4.out.size))
  have H6 := Lib.hid (H5.out _ (HT4.out.below hb5) (HL4.out.below hb5) (HM4.out.below hb5))
  have D5 := HD4.out.below hb5
  have E5 := HE4.out.below hb5
  have r0 := D5.c0
  have r1 := D5.c1
  have r2 := D5.c2
  have s0 := E5.c0
  have s1 := E5.c1
  have s2 := E5.c2
  clear D5 E5 HB4 hb5 HT4 HL4 HM4 HD4 HE4 H5 y0 y1 y2 z0' z1' z2' u0 u1 uf vf vg vc
  go_wp2_with fail
  refine H6.out.mono ?_
  rintro e w5 ⟨rfl, hb6⟩
  have Hfin := Lib.hid (HB5.out.trans (hb6.mono HB5.out.size))
  clear HB5 hb6 H6
  go_wp2
  go_ret
  exact ⟨rfl, Hfin.out⟩

set_option maxHeartbeats 1000000 in
set_option maxRecDepth 20000 in
theorem fback_sg (b sa sb : Nat) (w : World) (hT : Tab w) (ha : 9223372036854775808 < 18446744073709551616) (hb : b < 18446744073709551616) (fa : Fnt 9223372036854775808) (fb : Fnt b)
    (Hc : Hid (exD (fO 9223372036854775808) = (0, true))) (Ha : Hid (9223372036854775808 % 9223372036854775808 = sa)) (Hb : Hid (b % 9223372036854775808 = sb)) (o1 : decide (sa < sb) = false) (o2 : ((sa : Int) == (sb : Int)) = false)
    (Hv : Hid (cmpI (dw false (fO 9223372036854775808).V (fO 9223372036854775808).e) (dw false (fO b).V (fO b).e) = 1)) :
    Calls Tryd.prog 5 #[.int .u64 9223372036854775808, .int .u64 (b : Int)] w fun e w' => e = .returned (.bool true) ∧ Below w.heap.size w w' := by
  have Hn := Lib.hid (nO_fO fa)
  have H1 : Hid (∀ w, Tab w → Calls Tryd.prog 12 #[.int .u64 9223372036854775808] w (FTold w (fO 9223372036854775808) 1)) := fun w hT => fdyad_yes 9223372036854775808 ha w hT fa
  have H2 : Hid (∀ w, Tab w → Calls Tryd.prog 12 #[.int .u64 (b : Int)] w (FTold w (fO b) 1)) := fun w hT => fdyad_yes b hb w hT fb
  clear fa fb
  generalize fO 9223372036854775808 = x at *
  generalize fO b = y at *
  obtain ⟨g0, V0, e0⟩ := x
  obtain ⟨g1, V1, e1⟩ := y
  simp only at Hn Hv
  have HT := Lib.hid hT
  clear hT
  go_enter Tryd.func5, Tryd.ntmps5
  go_wp2_with fail
  refine (falive_any w HT.out).mono ?_
  rintro e w0 ⟨rfl, hb0⟩
  have HB := Lib.hid hb0
  have HT0 := Lib.hid (HT.out.below hb0)
  clear hb0 HT
  go_wp2_with fail
  refine (H1.out _ HT0.out).mono ?_
  rintro e w1 ⟨A0, m0, c0, z0, rfl, hm0, hl0, hq0, hv0, hbd0⟩
  simp only at hv0
  have a1 := hbd0.trans ((below1 w1 (.cells #[.bool g0, .slice A0 m0 c0, .int .i64 e0] 28)).mono hbd0.size)
  have HB1 := Lib.hid (HB.out.trans (a1.mono HB.out.size))
  have HT1 := Lib.hid (HT0.out.below a1)
  have HL0 := Lib.hid (hl0.alloc (.cells #[.bool g0, .slice A0 m0 c0, .int .i64 e0] 28))
  have HD0 := Lib.hid (Bd.new w1 28 g0 A0 m0 c0 e0)
  have HS0 := Lib.hid ((HB.out.trans (hbd0.mono HB.out.size)).size)
  have HV0 := Lib.hid hv0
  clear a1 HB HT0 hbd0 hl0 hq0 hv0 H1
  go_wp2_with fail
  refine (H2.out _ HT1.out).mono ?_
  rintro e w2 ⟨A1, m1, c1, z1, rfl, hm1, hl1, hq1, hv1, hbd1⟩
  simp only at hv1
  have a1 := hbd1.trans ((below1 w2 (.cells #[.bool g1, .slice A1 m1 c1, .int .i64 e1] 28)).mono hbd1.size)
  have HB2 := Lib.hid (HB1.out.trans (a1.mono HB1.out.size))
  have HT2 := Lib.hid (HT1.out.below a1)
  have HL1 := Lib.hid (hl1.alloc (.cells #[.bool g1, .slice A1 m1 c1, .int .i64 e1] 28))
  have HD1 := Lib.hid (Bd.new w2 28 g1 A1 m1 c1 e1)
  have HL2 := Lib.hid (HL0.out.below a1)
  have HD2 := Lib.hid (HD0.out.below a1)
  have hne : w1.heap.size ≠ w2.heap.size := by
    have := hbd1.size
    rw [World.size_alloc] at this
    omega
  have HS1 := Lib.hid ((HB1.out.trans (hbd1.mono HB1.out.size)).size)
  have HV1 := Lib.hid hv1
  have H3 := Lib.hid (exact_l 0 true g0 A0 m0 c0 z0 e0 _ HL2.out (by omega) HT2.out (by rw [HV0.out, Hn.out]; exact Hc))
  have x0 := HD2.out.c0
  have x1 := HD2.out.c1
  have x2 := HD2.out.c2
  have Hne := Lib.hid hne
  clear a1 HB1 HT1 HL0 HD0 hbd1 hl1 hq1 hv1 H2 hne
  go_wp2_with fail
  refine H3.out.mono ?_
  rintro e w3 ⟨rfl, hb3⟩
  have HB3 := Lib.hid (HB2.out.trans (hb3.mono HB2.out.size))
  have HT3 := Lib.hid (HT2.out.below hb3)
  have HL3 := Lib.hid (HL2.out.below hb3)
  have HM3 := Lib.hid (HL1.out.below hb3)
  have HD3 := Lib.hid (HD2.out.below hb3)
  have HE3 := Lib.hid (HD1.out.below hb3)
  clear HB2 HT2 HL2 HL1 HD2 HD1 hb3 H3 x0 x1 x2
  -- the signs off
  have HB4 := Lib.hid ((HB3.out.setCell (p := ⟨w1.heap.size, 0, none⟩) HS0.out (.bool false)).setCell (p := ⟨w2.heap.size, 0, none⟩) HS1.out (.bool false))
  have E4 := HE3.out.set0_other (Ne.symm Hne.out) (.bool false)
  have HT4 := Lib.hid (E4.set0_tab (HD3.out.set0_tab HT3.out (.bool false)) (.bool false))
  have HL4 := Lib.hid (E4.set0_lim (HD3.out.set0_lim HL3.out (.bool false)) (.bool false))
  have HM4 := Lib.hid (E4.set0_lim (HD3.out.set0_lim HM3.out (.bool false)) (.bool false))
  have HD4 := Lib.hid ((HD3.out.set0 false).set0_other Hne.out (.bool false))
  have HE4 := Lib.hid (E4.set0 false)
  have u0 := HD3.out.c0
  have u1 := HE3.out.c0
  have uf := HD3.out.fz
  have vf := HE3.out.fz
  have vg := E4.fz
  have vc := E4.c0
  have y0 := HD4.out.c0
  have y1 := HD4.out.c1
  have y2 := HD4.out.c2
  have z0' := HE4.out.c0
  have z1' := HE4.out.c1
  have z2' := HE4.out.c2
  have H5 : Hid (∀ w', Tab w' → Lim w' A0 m0 c0 z0 → Lim w' A1 m1 c1 z1 → Calls Tryd.prog 23 #[.agg #[.bool false, .slice A0 m0 c0, .int .i64 e0], .agg #[.bool false, .slice A1 m1 c1, .int .i64 e1]] w' fun e w'' => e = .returned (.int .i64 1) ∧ Below w'.heap.size w' w'') :=
    fun w' h1 h2 h3 => dcmp_l 1 false A0 m0 c0 z0 e0 false A1 m1 c1 z1 e1 w' h2 h3 (by omega) (by omega) h1 (by rw [HV0.out, HV1.out]; exact Hv)
  clear HB3 HT3 HL3 HM3 HD3 HE3 E4 Hv Hc Hn HS0 HS1 HV0 HV1
  go_wp2_with fail
  refine (rsize_l sa 9223372036854775808 _ Ha).mono ?_
  rintro e w' ⟨rfl, rfl⟩
  go_wp2_with fail
  refine (rsize_l sb b _ Hb).mono ?_
  rintro e w' ⟨rfl, rfl⟩
  go_wp2_with fail
  refine (H5.out _ HT4.out HL4.out HM4.out).mono ?_
  rintro e w4 ⟨rfl, hb5⟩
  have HB5 := Lib.hid (HB4.out.trans (hb5.mono HB4.out.size))
  have H6 := Lib.hid (H5.out _ (HT4.out.below hb5) (HL4.out.below hb5) (HM4.out.below hb5))
  have D5 := HD4.out.below hb5
  have E5 := HE4.out.below hb5
  have r0 := D5.c0
  have r1 := D5.c1
  have r2 := D5.c2
  have s0 := E5.c0
  have s1 := E5.c1
  have s2 := E5.c2
  clear D5 E5 HB4 hb5 HT4 HL4 HM4 HD4 HE4 H5 y0 y1 y2 z0' z1' z2' u0 u1 uf vf vg vc
  go_wp2_with fail
  refine H6.out.mono ?_
  rintro e w5 ⟨rfl, hb6⟩
  have Hfin := Lib.hid (HB5.out.trans (hb6.mono HB5.out.size))
  clear HB5 hb6 H6
  go_wp2
  go_ret
  exact ⟨rfl, Hfin.out⟩

theorem walk_floatBack (a0 b0 : Int) (w : World) (hT : Tab w) (h0 : 0 ≤ a0) (h1 : a0 ≤ 18446744073709551615) (h2 : 0 ≤ b0) (h3 : b0 ≤ 18446744073709551615) :
    Calls Tryd.prog 5 #[.int .u64 a0, .int .u64 b0] w fun e w' => e = .returned (.bool true) ∧ Below w.heap.size w w' := by
  obtain ⟨a, rfl⟩ := Int.eq_ofNat_of_zero_le h0
  obtain ⟨b, rfl⟩ := Int.eq_ofNat_of_zero_le h2
  have ha : a < 18446744073709551616 := by omega
  have hb : b < 18446744073709551616 := by omega
  by_cases fa : Fnt a
  · by_cases fb : Fnt b
    · have hc := exD_back ha fa
      have ho := f_order fa fb (mk_fin fa) (mk_fin fb)
      by_cases hm : a = 9223372036854775808
      · subst hm
        have hz : fm 9223372036854775808 = 0 := by decide
        rw [if_pos hz] at hc
        rcases Nat.lt_trichotomy (9223372036854775808 % 9223372036854775808) (b % 9223372036854775808) with h | h | h
        · exact fback_sl b _ _ w hT ha hb fa fb hc rfl rfl h (beq_no (by omega)) (ho.trans (cmpI_lt (by omega)))
        · exact fback_se b _ w hT ha hb fa fb hc rfl h.symm (ho.trans (cmpI_eq (by omega)))
        · exact fback_sg b _ _ w hT ha hb fa fb hc rfl rfl (decide_eq_false (by omega)) (beq_no (by omega)) (ho.trans (cmpI_gt (by omega)))
      · have hc' : exD (fO a) = (a, true) := by
          rw [hc]
          split
          · rename_i hz
            have p1 := (f_parts a).1
            have p2 := f_sign ha
            have p3 := (f_parts a).2.2.1
            have hE : fE a = 0 := by omega
            rw [hz, hE] at p1
            rw [p1] at p2
            have : a = 0 := by
              by_cases hs : fng a = true
              · rw [if_pos hs] at p2; omega
              · rw [if_neg hs] at p2; omega
            rw [this]
          · rfl
        rcases Nat.lt_trichotomy (a % 9223372036854775808) (b % 9223372036854775808) with h | h | h
        · exact fback_pl a b _ _ w hT ha hb fa fb hc' rfl rfl h (beq_no (by omega)) (ho.trans (cmpI_lt (by omega)))
        · exact fback_pe a b _ w hT ha hb fa fb hc' rfl h.symm (ho.trans (cmpI_eq (by omega)))
        · exact fback_pg a b _ _ w hT ha hb fa fb hc' rfl rfl (decide_eq_false (by omega)) (beq_no (by omega)) (ho.trans (cmpI_gt (by omega)))
    · exact fback_yn a b w hT ha hb fa fb
  · by_cases fb : Fnt b
    · exact fback_ny a b w hT ha hb fa fb
    · exact fback_nn a b w hT ha hb fa fb
end Go.Proofs.YtgkjlfhflndddaaDoor
