/- The walks of exps.whole.less and of exps.goes (written by law_eless.py). -/
import Derived.Test.YtijhdlkfihjbiaaGreatDoorEpWhole
namespace Go.Proofs.YtijhdlkfihjbiaaGreatDoor
open Go.RowKit

/-- Both whole numbers in their blocks, the result's, their lists. -/
def HoldW2 (w : World) (g : Bool) (A : Option Addr) (n c : Nat) (xs : List Nat) (k : Bool) (B : Option Addr) (m d : Nat) (ys : List Nat) (u : World) : Prop :=
  Wd u w.heap.size g A n c ∧ Wd u (w.heap.size + 1) k B m d ∧ Wd u (w.heap.size + 2) false none 0 0 ∧ Lim u A n c xs ∧ Lim u B m d ys ∧ Below w.heap.size w u
section
variable {w u u' : World} {g : Bool} {A : Option Addr} {n c : Nat} {xs : List Nat} {k : Bool} {B : Option Addr} {m d : Nat} {ys : List Nat}
theorem HoldW2.below (h : HoldW2 w g A n c xs k B m d ys u) (hb : Below u.heap.size u u') : HoldW2 w g A n c xs k B m d ys u' :=
  ⟨h.1.below hb, h.2.1.below hb, h.2.2.1.below hb, h.2.2.2.1.below hb, h.2.2.2.2.1.below hb, h.2.2.2.2.2.trans (hb.mono h.2.2.2.2.2.size)⟩
theorem HoldW2.start (hA : Lim w A n c xs) (hB : Lim w B m d ys) : HoldW2 w g A n c xs k B m d ys (((w.alloc (.cells #[.bool g, .slice A n c] 69)).alloc (.cells #[.bool k, .slice B m d] 69)).alloc (.cells #[.bool false, .slice none 0 0] 69)) := by
  have a1 := below1 w (.cells #[.bool g, .slice A n c] 69)
  have a2 := below1 (w.alloc (.cells #[.bool g, .slice A n c] 69)) (.cells #[.bool k, .slice B m d] 69)
  have a3 := below1 ((w.alloc (.cells #[.bool g, .slice A n c] 69)).alloc (.cells #[.bool k, .slice B m d] 69)) (.cells #[.bool false, .slice none 0 0] 69)
  have b1 := Wd.new w g A n c
  have b2 := Wd.new (w.alloc (.cells #[.bool g, .slice A n c] 69)) k B m d
  have b3 := Wd.new ((w.alloc (.cells #[.bool g, .slice A n c] 69)).alloc (.cells #[.bool k, .slice B m d] 69)) false none 0 0
  rw [World.size_alloc] at b2 b3
  rw [World.size_alloc] at b3
  have a12 := a1.trans (a2.mono a1.size)
  exact ⟨(b1.below a2).below a3, b2.below a3, b3, ((hA.below a1).below a2).below a3, ((hB.below a1).below a2).below a3, a12.trans (a3.mono a12.size)⟩
theorem HoldW2.cells (h : HoldW2 w g A n c xs k B m d ys u) : u.cell? ⟨w.heap.size, 0, none⟩ = some (.bool g) ∧ u.cell? ⟨w.heap.size, 1, none⟩ = some (.slice A n c) ∧ u.cell? ⟨w.heap.size + 1, 1, none⟩ = some (.slice B m d) := ⟨h.1.c0, h.1.c1, h.2.1.c1⟩
theorem HoldW2.out (h : HoldW2 w g A n c xs k B m d ys u) {Z : Int} {Lg : Nat} {A' : Option Addr} {n' c' : Nat} {zs : List Nat} (hl : Lim u A' n' c' zs) (hn : n' ≤ Lg) (hb : Bare zs) (hv : val zs = Z.natAbs) :
    WTold w Z Lg (.returned (.agg #[.bool (decide (Z < 0)), .slice A' n' c'])) (World.putW u (w.heap.size + 2) (decide (Z < 0)) A' n' c') :=
  ⟨A', n', c', zs, rfl, hn, h.2.2.1.lim hl _ _ _ _, hb, hv, below_putW h.2.2.2.2.2 (by omega) _ _ _ _⟩
end

theorem HoldW2.kept {w u : World} {g : Bool} {A : Option Addr} {n c : Nat} {xs : List Nat} {k : Bool} {B : Option Addr} {m d : Nat} {ys : List Nat} (h : HoldW2 w g A n c xs k B m d ys u) (g' : Bool) (A' : Option Addr) (n' c' : Nat) :
    (World.putW u (w.heap.size + 2) g' A' n' c').cell? ⟨w.heap.size, 0, none⟩ = some (.bool g) ∧ (World.putW u (w.heap.size + 2) g' A' n' c').cell? ⟨w.heap.size, 1, none⟩ = some (.slice A n c) ∧ (World.putW u (w.heap.size + 2) g' A' n' c').cell? ⟨w.heap.size + 1, 1, none⟩ = some (.slice B m d) := by
  rw [putW_cell _ _ _ _ _ _ _ (show w.heap.size ≠ w.heap.size + 2 by omega), putW_cell _ _ _ _ _ _ _ (show w.heap.size ≠ w.heap.size + 2 by omega), putW_cell _ _ _ _ _ _ _ (show w.heap.size + 1 ≠ w.heap.size + 2 by omega)]
  exact h.cells

set_option maxHeartbeats 1000000 in
set_option maxRecDepth 20000 in
theorem less_ft (A : Option Addr) (n c : Nat) (xs : List Nat) (B : Option Addr) (m d : Nat) (ys : List Nat) (Z : Int) (w : World) (hA : Lim w A n c xs) (hB : Lim w B m d ys) (hn : n ≤ 200000) (hm : m ≤ 200000) (hZ : Hid (wz false (val xs + val ys) = Z)) :
    Calls Tryz.prog 38 #[.agg #[.bool false, .slice A n c], .agg #[.bool true, .slice B m d]] w (WTold w Z (max n m + 1)) := by
  have k0 := HoldW2.start (g := false) (k := true) hA hB
  have HZ := Lib.hid hZ.out
  have K0 := Lib.hid (k0.below (below_drew _))
  have HC : Hid (∀ u, HoldW2 w false A n c xs true B m d ys u → Calls Tryz.prog 73 #[.slice A n c, .slice B m d] u (Tells u (val xs + val ys) (max n m + 1))) := fun u hu => add_any A n c xs B m d ys u hu.2.2.2.1 hu.2.2.2.2.1 (by omega) (by omega)
  have HG : Hid (∀ u A3 m3 c3 us, Lim u A3 m3 c3 us → Bare us → val us = val xs + val ys → Calls Tryz.prog 74 #[.bool false, .slice A3 m3 c3] u (WTold u Z m3)) := fun u A3 m3 c3 us h1 h2 h3 => signed_l false A3 m3 c3 us Z u h1 h2 (by show _ = _; rw [h3]; exact HZ.out)
  have x0 := k0.1.c0
  have x1 := k0.2.1.c0
  clear hA hB hZ k0
  go_enter Tryz.func38, Tryz.ntmps38
  go_wp2_with fail
  go_region_held3 (fun u => u.cell? ⟨w.heap.size, 0, none⟩ = some (.bool false) ∧ u.cell? ⟨w.heap.size, 1, none⟩ = some (.slice A n c) ∧ u.cell? ⟨w.heap.size + 1, 1, none⟩ = some (.slice B m d)) (first | (with_reducible exact K0.out.cells) | (with_reducible exact kp.out))
    (first
      | (go_at_call 73; (with_reducible refine (HC.out _ K0.out).mono ?_); rintro e w3 ⟨A3, m3, c3, us, rfl, hm3, hl3, hb3, hv3, hB3⟩; replace K0 := Lib.hid (K0.out.below hB3); clear hB3)
      | (go_at_call 74; (with_reducible refine (HG.out _ A3 m3 c3 us hl3 hb3 hv3).mono ?_); rintro e w4 ⟨A4, m4, c4, ts, rfl, hm4, hl4, hb4, hv4, hB4⟩; replace K0 := Lib.hid (K0.out.below hB4); clear hB4; have y0 := K0.out.2.2.1.c0; have y1 := K0.out.2.2.1.c1; have yf := K0.out.2.2.1.fz; have kp := Lib.hid (HoldW2.kept K0.out (decide (Z < 0)) A4 m4 c4)))
  all_goals (
    have Hfin := Lib.hid (K0.out.out (Lg := max n m + 1) hl4 (by omega) hb4 hv4)
    obtain ⟨dz, hdz⟩ : ∃ dz, decide (Z < 0) = dz := ⟨_, rfl⟩
    rw [hdz] at Hfin ⊢
    have z0 := (K0.out.2.2.1.putW dz A4 m4 c4).c0
    have z1 := (K0.out.2.2.1.putW dz A4 m4 c4).c1
    clear HC HG hl3 hb3 hv3 hl4 hb4 hv4 K0 HZ hdz kp
    go_wp2
    exact bodyPost_ret (v := .agg #[.bool dz, .slice A4 m4 c4]) (by simp [results, Tryz.results38, go_sem, z0, z1]) rfl Hfin.out)

set_option maxHeartbeats 1000000 in
set_option maxRecDepth 20000 in
theorem less_ffl (A : Option Addr) (n c : Nat) (xs : List Nat) (B : Option Addr) (m d : Nat) (ys : List Nat) (Z : Int) (w : World) (hA : Lim w A n c xs) (hB : Lim w B m d ys) (hn : n ≤ 200000) (hm : m ≤ 200000) (hlt : val xs < val ys) (hZ : Hid (wz true (val ys - val xs) = Z)) :
    Calls Tryz.prog 38 #[.agg #[.bool false, .slice A n c], .agg #[.bool false, .slice B m d]] w (WTold w Z (max n m + 1)) := by
  have k0 := HoldW2.start (g := false) (k := false) hA hB
  have HZ := Lib.hid hZ.out
  have K0 := Lib.hid k0
  obtain ⟨cv, hcv⟩ : ∃ cv, cmpZ (val xs) (val ys) = cv := ⟨_, rfl⟩
  have H1 := Lib.hid (cmp_b cv A n c xs B m d ys _ k0.2.2.2.1 k0.2.2.2.2.1 (by omega) (by omega) hcv)
  have dc : decide (cv < (0 : Int)) = true := decide_eq_true (by rw [← hcv, cmpZ_lt hlt]; decide)
  have HLt : Hid (val xs ≤ val ys) := by show _ ≤ _; omega
  have x0 := k0.1.c0
  have x1 := k0.1.c1
  have x2 := k0.2.1.c0
  have x3 := k0.2.1.c1
  clear hA hB hZ k0 hlt hcv
  go_enter Tryz.func38, Tryz.ntmps38
  go_wp2_with fail
  refine H1.out.mono ?_
  rintro e w1 ⟨rfl, hB1⟩
  clear x0 x1 x2 x3 H1
  replace K0 := Lib.hid (K0.out.below hB1)
  clear hB1
  have x0 := K0.out.1.c0
  have x1 := K0.out.1.c1
  have x3 := K0.out.2.1.c1
  have H2 := Lib.hid (sub_any B m d ys A n c xs w1 K0.out.2.2.2.2.1 K0.out.2.2.2.1 (by omega) (by omega) HLt.out)
  go_wp2_with fail
  refine H2.out.mono ?_
  rintro e w3 ⟨A3, m3, c3, us, rfl, hm3, hl3, hb3, hv3, hB3⟩
  clear x0 x1 x3 H2 HLt
  replace K0 := Lib.hid (K0.out.below hB3)
  have x0 := K0.out.1.c0
  have H4 := Lib.hid (signed_l true A3 m3 c3 us Z w3 hl3 hb3 (by show _ = _; rw [hv3]; exact HZ.out))
  clear hl3 hb3 hv3 hB3
  go_wp2_with fail
  refine H4.out.mono ?_
  rintro e w4 ⟨A4, m4, c4, ts, rfl, hm4, hl4, hb4, hv4, hB4⟩
  clear x0
  have k4 := K0.out.below hB4
  have y0 := k4.2.2.1.c0
  have y1 := k4.2.2.1.c1
  have yf := k4.2.2.1.fz
  have Hfin := Lib.hid (k4.out (Lg := max n m + 1) hl4 (by omega) hb4 hv4)
  obtain ⟨dz, hdz⟩ : ∃ dz, decide (Z < 0) = dz := ⟨_, rfl⟩
  rw [hdz] at Hfin ⊢
  clear H4 hl4 hb4 hv4 hB4 k4 K0 HZ hdz
  go_wp2
  exact bodyPost_ret (v := .agg #[.bool dz, .slice A4 m4 c4]) (by simp [results, Tryz.results38, go_sem, y0, y1]) rfl Hfin.out

set_option maxHeartbeats 1000000 in
set_option maxRecDepth 20000 in
theorem less_ffm (A : Option Addr) (n c : Nat) (xs : List Nat) (B : Option Addr) (m d : Nat) (ys : List Nat) (Z : Int) (w : World) (hA : Lim w A n c xs) (hB : Lim w B m d ys) (hn : n ≤ 200000) (hm : m ≤ 200000) (hlt : ¬ val xs < val ys) (hZ : Hid (wz false (val xs - val ys) = Z)) :
    Calls Tryz.prog 38 #[.agg #[.bool false, .slice A n c], .agg #[.bool false, .slice B m d]] w (WTold w Z (max n m + 1)) := by
  have k0 := HoldW2.start (g := false) (k := false) hA hB
  have HZ := Lib.hid hZ.out
  have K0 := Lib.hid k0
  obtain ⟨cv, hcv⟩ : ∃ cv, cmpZ (val xs) (val ys) = cv := ⟨_, rfl⟩
  have H1 := Lib.hid (cmp_b cv A n c xs B m d ys _ k0.2.2.2.1 k0.2.2.2.2.1 (by omega) (by omega) hcv)
  have dc : decide (cv < (0 : Int)) = false := decide_eq_false (by rw [← hcv]; have := cmpZ_up (show val ys ≤ val xs by omega); omega)
  have HLt : Hid (val ys ≤ val xs) := by show _ ≤ _; omega
  have x0 := k0.1.c0
  have x1 := k0.1.c1
  have x2 := k0.2.1.c0
  have x3 := k0.2.1.c1
  clear hA hB hZ k0 hlt hcv
  go_enter Tryz.func38, Tryz.ntmps38
  go_wp2_with fail
  refine H1.out.mono ?_
  rintro e w1 ⟨rfl, hB1⟩
  clear x0 x1 x2 x3 H1
  replace K0 := Lib.hid (K0.out.below hB1)
  clear hB1
  have x0 := K0.out.1.c0
  have x1 := K0.out.1.c1
  have x3 := K0.out.2.1.c1
  have H2 := Lib.hid (sub_any A n c xs B m d ys w1 K0.out.2.2.2.1 K0.out.2.2.2.2.1 (by omega) (by omega) HLt.out)
  go_wp2_with fail
  refine H2.out.mono ?_
  rintro e w3 ⟨A3, m3, c3, us, rfl, hm3, hl3, hb3, hv3, hB3⟩
  clear x0 x1 x3 H2 HLt
  replace K0 := Lib.hid (K0.out.below hB3)
  have x0 := K0.out.1.c0
  have H4 := Lib.hid (signed_l false A3 m3 c3 us Z w3 hl3 hb3 (by show _ = _; rw [hv3]; exact HZ.out))
  clear hl3 hb3 hv3 hB3
  go_wp2_with fail
  refine H4.out.mono ?_
  rintro e w4 ⟨A4, m4, c4, ts, rfl, hm4, hl4, hb4, hv4, hB4⟩
  clear x0
  have k4 := K0.out.below hB4
  have y0 := k4.2.2.1.c0
  have y1 := k4.2.2.1.c1
  have yf := k4.2.2.1.fz
  have Hfin := Lib.hid (k4.out (Lg := max n m + 1) hl4 (by omega) hb4 hv4)
  obtain ⟨dz, hdz⟩ : ∃ dz, decide (Z < 0) = dz := ⟨_, rfl⟩
  rw [hdz] at Hfin ⊢
  clear H4 hl4 hb4 hv4 hB4 k4 K0 HZ hdz
  go_wp2
  exact bodyPost_ret (v := .agg #[.bool dz, .slice A4 m4 c4]) (by simp [results, Tryz.results38, go_sem, y0, y1]) rfl Hfin.out

set_option maxHeartbeats 1000000 in
set_option maxRecDepth 20000 in
theorem less_tf (A : Option Addr) (n c : Nat) (xs : List Nat) (B : Option Addr) (m d : Nat) (ys : List Nat) (Z : Int) (w : World) (hA : Lim w A n c xs) (hB : Lim w B m d ys) (hn : n ≤ 200000) (hm : m ≤ 200000) (hZ : Hid (wz true (val xs + val ys) = Z)) :
    Calls Tryz.prog 38 #[.agg #[.bool true, .slice A n c], .agg #[.bool false, .slice B m d]] w (WTold w Z (max n m + 1)) := by
  have k0 := HoldW2.start (g := true) (k := false) hA hB
  have HZ := Lib.hid hZ.out
  have K0 := Lib.hid (k0.below (below_drew _))
  have HC : Hid (∀ u, HoldW2 w true A n c xs false B m d ys u → Calls Tryz.prog 73 #[.slice A n c, .slice B m d] u (Tells u (val xs + val ys) (max n m + 1))) := fun u hu => add_any A n c xs B m d ys u hu.2.2.2.1 hu.2.2.2.2.1 (by omega) (by omega)
  have HG : Hid (∀ u A3 m3 c3 us, Lim u A3 m3 c3 us → Bare us → val us = val xs + val ys → Calls Tryz.prog 74 #[.bool true, .slice A3 m3 c3] u (WTold u Z m3)) := fun u A3 m3 c3 us h1 h2 h3 => signed_l true A3 m3 c3 us Z u h1 h2 (by show _ = _; rw [h3]; exact HZ.out)
  have x0 := k0.1.c0
  have x1 := k0.2.1.c0
  clear hA hB hZ k0
  go_enter Tryz.func38, Tryz.ntmps38
  go_wp2_with fail
  go_region_held3 (fun u => u.cell? ⟨w.heap.size, 0, none⟩ = some (.bool true) ∧ u.cell? ⟨w.heap.size, 1, none⟩ = some (.slice A n c) ∧ u.cell? ⟨w.heap.size + 1, 1, none⟩ = some (.slice B m d)) (first | (with_reducible exact K0.out.cells) | (with_reducible exact kp.out))
    (first
      | (go_at_call 73; (with_reducible refine (HC.out _ K0.out).mono ?_); rintro e w3 ⟨A3, m3, c3, us, rfl, hm3, hl3, hb3, hv3, hB3⟩; replace K0 := Lib.hid (K0.out.below hB3); clear hB3)
      | (go_at_call 74; (with_reducible refine (HG.out _ A3 m3 c3 us hl3 hb3 hv3).mono ?_); rintro e w4 ⟨A4, m4, c4, ts, rfl, hm4, hl4, hb4, hv4, hB4⟩; replace K0 := Lib.hid (K0.out.below hB4); clear hB4; have y0 := K0.out.2.2.1.c0; have y1 := K0.out.2.2.1.c1; have yf := K0.out.2.2.1.fz; have kp := Lib.hid (HoldW2.kept K0.out (decide (Z < 0)) A4 m4 c4)))
  all_goals (
    have Hfin := Lib.hid (K0.out.out (Lg := max n m + 1) hl4 (by omega) hb4 hv4)
    obtain ⟨dz, hdz⟩ : ∃ dz, decide (Z < 0) = dz := ⟨_, rfl⟩
    rw [hdz] at Hfin ⊢
    have z0 := (K0.out.2.2.1.putW dz A4 m4 c4).c0
    have z1 := (K0.out.2.2.1.putW dz A4 m4 c4).c1
    clear HC HG hl3 hb3 hv3 hl4 hb4 hv4 K0 HZ hdz kp
    go_wp2
    exact bodyPost_ret (v := .agg #[.bool dz, .slice A4 m4 c4]) (by simp [results, Tryz.results38, go_sem, z0, z1]) rfl Hfin.out)

set_option maxHeartbeats 1000000 in
set_option maxRecDepth 20000 in
theorem less_ttl (A : Option Addr) (n c : Nat) (xs : List Nat) (B : Option Addr) (m d : Nat) (ys : List Nat) (Z : Int) (w : World) (hA : Lim w A n c xs) (hB : Lim w B m d ys) (hn : n ≤ 200000) (hm : m ≤ 200000) (hlt : val xs < val ys) (hZ : Hid (wz false (val ys - val xs) = Z)) :
    Calls Tryz.prog 38 #[.agg #[.bool true, .slice A n c], .agg #[.bool true, .slice B m d]] w (WTold w Z (max n m + 1)) := by
  have k0 := HoldW2.start (g := true) (k := true) hA hB
  have HZ := Lib.hid hZ.out
  have K0 := Lib.hid k0
  obtain ⟨cv, hcv⟩ : ∃ cv, cmpZ (val xs) (val ys) = cv := ⟨_, rfl⟩
  have H1 := Lib.hid (cmp_b cv A n c xs B m d ys _ k0.2.2.2.1 k0.2.2.2.2.1 (by omega) (by omega) hcv)
  have dc : decide (cv < (0 : Int)) = true := decide_eq_true (by rw [← hcv, cmpZ_lt hlt]; decide)
  have HLt : Hid (val xs ≤ val ys) := by show _ ≤ _; omega
  have x0 := k0.1.c0
  have x1 := k0.1.c1
  have x2 := k0.2.1.c0
  have x3 := k0.2.1.c1
  clear hA hB hZ k0 hlt hcv
  go_enter Tryz.func38, Tryz.ntmps38
  go_wp2_with fail
  refine H1.out.mono ?_
  rintro e w1 ⟨rfl, hB1⟩
  clear x0 x1 x2 x3 H1
  replace K0 := Lib.hid (K0.out.below hB1)
  clear hB1
  have x0 := K0.out.1.c0
  have x1 := K0.out.1.c1
  have x3 := K0.out.2.1.c1
  have H2 := Lib.hid (sub_any B m d ys A n c xs w1 K0.out.2.2.2.2.1 K0.out.2.2.2.1 (by omega) (by omega) HLt.out)
  go_wp2_with fail
  refine H2.out.mono ?_
  rintro e w3 ⟨A3, m3, c3, us, rfl, hm3, hl3, hb3, hv3, hB3⟩
  clear x0 x1 x3 H2 HLt
  replace K0 := Lib.hid (K0.out.below hB3)
  have x0 := K0.out.1.c0
  have H4 := Lib.hid (signed_l false A3 m3 c3 us Z w3 hl3 hb3 (by show _ = _; rw [hv3]; exact HZ.out))
  clear hl3 hb3 hv3 hB3
  go_wp2_with fail
  refine H4.out.mono ?_
  rintro e w4 ⟨A4, m4, c4, ts, rfl, hm4, hl4, hb4, hv4, hB4⟩
  clear x0
  have k4 := K0.out.below hB4
  have y0 := k4.2.2.1.c0
  have y1 := k4.2.2.1.c1
  have yf := k4.2.2.1.fz
  have Hfin := Lib.hid (k4.out (Lg := max n m + 1) hl4 (by omega) hb4 hv4)
  obtain ⟨dz, hdz⟩ : ∃ dz, decide (Z < 0) = dz := ⟨_, rfl⟩
  rw [hdz] at Hfin ⊢
  clear H4 hl4 hb4 hv4 hB4 k4 K0 HZ hdz
  go_wp2
  exact bodyPost_ret (v := .agg #[.bool dz, .slice A4 m4 c4]) (by simp [results, Tryz.results38, go_sem, y0, y1]) rfl Hfin.out

set_option maxHeartbeats 1000000 in
set_option maxRecDepth 20000 in
theorem less_ttm (A : Option Addr) (n c : Nat) (xs : List Nat) (B : Option Addr) (m d : Nat) (ys : List Nat) (Z : Int) (w : World) (hA : Lim w A n c xs) (hB : Lim w B m d ys) (hn : n ≤ 200000) (hm : m ≤ 200000) (hlt : ¬ val xs < val ys) (hZ : Hid (wz true (val xs - val ys) = Z)) :
    Calls Tryz.prog 38 #[.agg #[.bool true, .slice A n c], .agg #[.bool true, .slice B m d]] w (WTold w Z (max n m + 1)) := by
  have k0 := HoldW2.start (g := true) (k := true) hA hB
  have HZ := Lib.hid hZ.out
  have K0 := Lib.hid k0
  obtain ⟨cv, hcv⟩ : ∃ cv, cmpZ (val xs) (val ys) = cv := ⟨_, rfl⟩
  have H1 := Lib.hid (cmp_b cv A n c xs B m d ys _ k0.2.2.2.1 k0.2.2.2.2.1 (by omega) (by omega) hcv)
  have dc : decide (cv < (0 : Int)) = false := decide_eq_false (by rw [← hcv]; have := cmpZ_up (show val ys ≤ val xs by omega); omega)
  have HLt : Hid (val ys ≤ val xs) := by show _ ≤ _; omega
  have x0 := k0.1.c0
  have x1 := k0.1.c1
  have x2 := k0.2.1.c0
  have x3 := k0.2.1.c1
  clear hA hB hZ k0 hlt hcv
  go_enter Tryz.func38, Tryz.ntmps38
  go_wp2_with fail
  refine H1.out.mono ?_
  rintro e w1 ⟨rfl, hB1⟩
  clear x0 x1 x2 x3 H1
  replace K0 := Lib.hid (K0.out.below hB1)
  clear hB1
  have x0 := K0.out.1.c0
  have x1 := K0.out.1.c1
  have x3 := K0.out.2.1.c1
  have H2 := Lib.hid (sub_any A n c xs B m d ys w1 K0.out.2.2.2.1 K0.out.2.2.2.2.1 (by omega) (by omega) HLt.out)
  go_wp2_with fail
  refine H2.out.mono ?_
  rintro e w3 ⟨A3, m3, c3, us, rfl, hm3, hl3, hb3, hv3, hB3⟩
  clear x0 x1 x3 H2 HLt
  replace K0 := Lib.hid (K0.out.below hB3)
  have x0 := K0.out.1.c0
  have H4 := Lib.hid (signed_l true A3 m3 c3 us Z w3 hl3 hb3 (by show _ = _; rw [hv3]; exact HZ.out))
  clear hl3 hb3 hv3 hB3
  go_wp2_with fail
  refine H4.out.mono ?_
  rintro e w4 ⟨A4, m4, c4, ts, rfl, hm4, hl4, hb4, hv4, hB4⟩
  clear x0
  have k4 := K0.out.below hB4
  have y0 := k4.2.2.1.c0
  have y1 := k4.2.2.1.c1
  have yf := k4.2.2.1.fz
  have Hfin := Lib.hid (k4.out (Lg := max n m + 1) hl4 (by omega) hb4 hv4)
  obtain ⟨dz, hdz⟩ : ∃ dz, decide (Z < 0) = dz := ⟨_, rfl⟩
  rw [hdz] at Hfin ⊢
  clear H4 hl4 hb4 hv4 hB4 k4 K0 HZ hdz
  go_wp2
  exact bodyPost_ret (v := .agg #[.bool dz, .slice A4 m4 c4]) (by simp [results, Tryz.results38, go_sem, y0, y1]) rfl Hfin.out

/-- One whole number less another. -/
theorem less_l (Z Y : Int) (A : Option Addr) (n c : Nat) (xs : List Nat) (B : Option Addr) (m d : Nat) (ys : List Nat) (w : World) (hA : Lim w A n c xs) (hB : Lim w B m d ys) (hn : n ≤ 200000) (hm : m ≤ 200000) (hx : val xs = Z.natAbs) (hy : val ys = Y.natAbs) :
    Calls Tryz.prog 38 #[.agg #[.bool (decide (Z < 0)), .slice A n c], .agg #[.bool (decide (Y < 0)), .slice B m d]] w (WTold w (Z - Y) (max n m + 1)) := by
  by_cases hs : decide (Z < 0) = decide (Y < 0)
  · by_cases hl : Z.natAbs < Y.natAbs
    · have k := less_turned hs hl
      rw [← hx, ← hy] at k hl
      rw [← hs] at *
      generalize decide (Z < 0) = g at *
      cases g
      · exact less_ffl A n c xs B m d ys _ w hA hB hn hm hl k
      · exact less_ttl A n c xs B m d ys _ w hA hB hn hm hl k
    · have k := less_same hs hl
      rw [← hx, ← hy] at k hl
      rw [← hs] at *
      generalize decide (Z < 0) = g at *
      cases g
      · exact less_ffm A n c xs B m d ys _ w hA hB hn hm hl k
      · exact less_ttm A n c xs B m d ys _ w hA hB hn hm hl k
  · have k := less_apart hs
    rw [← hx, ← hy] at k
    generalize decide (Z < 0) = g at *
    generalize decide (Y < 0) = h at *
    cases g <;> cases h
    · exact absurd rfl hs
    · exact less_ft A n c xs B m d ys _ w hA hB hn hm k
    · exact less_tf A n c xs B m d ys _ w hA hB hn hm k
    · exact absurd rfl hs

set_option maxHeartbeats 1000000 in
theorem goes_tt (A : Option Addr) (n c : Nat) (xs : List Nat) (B : Option Addr) (m d : Nat) (ys : List Nat) (K : Nat) (w : World) (hA : Lim w A n c xs) (hB : Lim w B m d ys) (hn : n ≤ 200000) (hm : m ≤ 200000) (hT : Tab w) (h0 : val ys ≠ 0) (hK : Hid (upq (val xs) (val ys) = K)) (hK9 : K ≤ 100000) :
    Calls Tryz.prog 37 #[.agg #[.bool true, .slice A n c], .slice B m d] w fun e w' => e = .returned (.int .i64 (-(K : Int))) ∧ Below w.heap.size w w' := by
  have a1 := below1 w (.cells #[.bool true, .slice A n c] 69)
  have b1 := Wd.new w true A n c
  have H1 := up_any A n c xs B m d ys _ (hA.below a1) (hB.below a1) (by omega) (by omega) h0 (hT.below a1)
  rw [hK.out] at H1
  replace H1 := Lib.hid H1
  have HS := Lib.hid a1
  have x0 := b1.c0
  have x1 := b1.c1
  have wk : IntKind.i64.wrap (K : Int) = (K : Int) := by rw [IntKind.wrap_i64]; omega
  have wn : IntKind.i64.wrap (-(K : Int)) = -(K : Int) := by rw [IntKind.wrap_i64]; omega
  clear hA hB hT a1 b1 hK
  go_enter Tryz.func37, Tryz.ntmps37
  go_wp2_with fail
  refine H1.out.mono ?_
  rintro e w1 ⟨A1, m1, c1, zs, rfl, hm1, hl1, hb1, hv1, hB1⟩
  replace HS := Lib.hid (HS.out.trans (hB1.mono HS.out.size))
  have H2 := small_yes A1 m1 c1 zs w1 hl1 (by omega) (by omega)
  rw [hv1] at H2
  replace H2 := Lib.hid H2
  clear hl1 hb1 hv1 hB1 H1 x0 x1
  go_wp2_with fail
  refine H2.out.mono ?_
  rintro e w' ⟨rfl, rfl⟩
  clear H2
  have Hfin := Lib.hid HS.out
  clear HS
  go_wp2
  go_ret
  exact ⟨rfl, Hfin.out⟩
set_option maxHeartbeats 1000000 in
theorem goes_ff (A : Option Addr) (n c : Nat) (xs : List Nat) (B : Option Addr) (m d : Nat) (ys : List Nat) (K : Nat) (w : World) (hA : Lim w A n c xs) (hB : Lim w B m d ys) (hn : n ≤ 200000) (hm : m ≤ 200000) (hT : Tab w) (h0 : val ys ≠ 0) (hK : Hid (val xs / val ys = K)) (hK9 : K ≤ 100000) :
    Calls Tryz.prog 37 #[.agg #[.bool false, .slice A n c], .slice B m d] w fun e w' => e = .returned (.int .i64 (K : Int)) ∧ Below w.heap.size w w' := by
  have a1 := below1 w (.cells #[.bool false, .slice A n c] 69)
  have b1 := Wd.new w false A n c
  have H1 := div_any A n c xs B m d ys _ (hA.below a1) (hB.below a1) (by omega) (by omega) h0 (hT.below a1)
  rw [hK.out] at H1
  replace H1 := Lib.hid H1
  have HS := Lib.hid a1
  have x0 := b1.c0
  have x1 := b1.c1
  have wk : IntKind.i64.wrap (K : Int) = (K : Int) := by rw [IntKind.wrap_i64]; omega
  clear hA hB hT a1 b1 hK
  go_enter Tryz.func37, Tryz.ntmps37
  go_wp2_with fail
  refine H1.out.mono ?_
  rintro e w1 ⟨A1, m1, c1, zs, A2, m2, c2, us, rfl, hm1, hm2, hl1, hl2, hb1, hb2, hv1, hv2, hB1⟩
  replace HS := Lib.hid (HS.out.trans (hB1.mono HS.out.size))
  have H2 := small_yes A1 m1 c1 zs w1 hl1 (by omega) (by omega)
  rw [hv1] at H2
  replace H2 := Lib.hid H2
  clear hl1 hl2 hb1 hb2 hv1 hv2 hB1 H1 x0 x1
  go_wp2_with fail
  refine H2.out.mono ?_
  rintro e w' ⟨rfl, rfl⟩
  clear H2
  have Hfin := Lib.hid HS.out
  clear HS
  go_wp2
  go_ret
  exact ⟨rfl, Hfin.out⟩

end Go.Proofs.YtijhdlkfihjbiaaGreatDoor
