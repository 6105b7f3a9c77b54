/- The walks of dd's Add and Mul. -/
import Derived.Test.YtfccpjjdemanbaaDdOps
namespace Go.Proofs.Ytfccpjjdemanbaa
open Go.RowKit

/-- Two pairs in their boxes, and the result's block. -/
def HoldP (w0 : World) (xh xl yh yl : Nat) (w : World) : Prop := Pb w w0.heap.size xh xl ∧ Pb w (w0.heap.size + 1) yh yl ∧ Pb w (w0.heap.size + 1 + 1) 0 0 ∧ Below w0.heap.size w0 w
theorem HoldP.start (w : World) (xh xl yh yl : Nat) : HoldP w xh xl yh yl (((w.alloc (.cells #[.float .f64 xh, .float .f64 xl] 33)).alloc (.cells #[.float .f64 yh, .float .f64 yl] 33)).alloc (.cells #[.float .f64 0, .float .f64 0] 33)) := by
  have b1 := ((Pb.new w xh xl).alloc (.cells #[.float .f64 yh, .float .f64 yl] 33)).alloc (.cells #[.float .f64 0, .float .f64 0] 33)
  have b2 := (Pb.new (w.alloc (.cells #[.float .f64 xh, .float .f64 xl] 33)) yh yl).alloc (.cells #[.float .f64 0, .float .f64 0] 33)
  have b3 := Pb.new ((w.alloc (.cells #[.float .f64 xh, .float .f64 xl] 33)).alloc (.cells #[.float .f64 yh, .float .f64 yl] 33)) 0 0
  rw [World.size_alloc] at b2 b3
  rw [World.size_alloc] at b3
  exact ⟨b1, b2, b3, (((Below.refl _ _).alloc (Nat.le_refl _) _).alloc (by simp) _).alloc (by simp; omega) _⟩
theorem HoldP.below {w0 : World} {xh xl yh yl : Nat} {w w' : World} (h : HoldP w0 xh xl yh yl w) (hb : Below w.heap.size w w') : HoldP w0 xh xl yh yl w' :=
  ⟨h.1.below hb, h.2.1.below hb, h.2.2.1.below hb, h.2.2.2.trans (hb.mono h.2.2.2.size)⟩
theorem below_pair {B : Nat} {a w : World} (h : Below B a w) {b : Nat} (hb : B ≤ b) (x y : Nat) : Below B a ((w.setCell ⟨b, 0, none⟩ (.float .f64 x)).setCell ⟨b, 1, none⟩ (.float .f64 y)) :=
  (h.setCell (p := ⟨b, 0, none⟩) hb _).setCell (p := ⟨b, 1, none⟩) hb _

theorem add_w {xh xl yh yl hi lo : Nat} (h : AddEqs xh xl yh yl hi lo) (w : World) : Calls Try.prog 24 #[.agg #[.float .f64 xh, .float .f64 xl], .agg #[.float .f64 yh, .float .f64 yl]] w (PTold w hi lo) := by
  obtain ⟨s, e, v, x, h1, h2, h3, h4⟩ := h
  have o2 := fop h2
  have o3 := fop h3
  have S1 := Lib.hid (sum_w h1)
  have S2 := Lib.hid (quick_w h4)
  have K0 := Lib.hid (HoldP.start w xh xl yh yl)
  clear h1 h2 h3 h4
  go_enter Try.func24, Try.ntmps24
  go_wp2_with fail
  refine (S1.out _).mono ?_
  rintro e w1 ⟨rfl, hB1⟩
  have K1 := K0.out.below hB1
  have x1 := K1.1.c1
  have y1 := K1.2.1.c1
  have l1 := K1.1.lt
  have l2 := K1.2.1.lt
  have K1 := Lib.hid K1
  clear hB1 K0 S1
  go_wp2_with fail
  refine (S2.out _).mono ?_
  rintro e w2 ⟨rfl, hB2⟩
  have K2 := (K1.out.below (below1 _ _)).below hB2
  have z0 := K2.2.2.1.c0
  have z1 := K2.2.2.1.c1
  have zf := K2.2.2.1.fz
  have Hfin := Lib.hid (below_pair K2.2.2.2 (b := w.heap.size + 1 + 1) (by omega) hi lo)
  clear hB2 K1 K2 S2 x1 y1 l1 l2
  go_wp2
  exact bodyPost_ret (v := .agg #[.float .f64 hi, .float .f64 lo]) (by simp [results, Try.results24, go_sem, z0, z1]) rfl ⟨rfl, Hfin.out⟩

theorem mul_w {xh xl yh yl hi lo : Nat} (h : MulEqs xh xl yh yl hi lo) (w : World) : Calls Try.prog 25 #[.agg #[.float .f64 xh, .float .f64 xl], .agg #[.float .f64 yh, .float .f64 yl]] w (PTold w hi lo) := by
  obtain ⟨p, e, u1, u2, u, x, h1, h2, h3, h4, h5, h6⟩ := h
  have o2 := fop h2
  have o3 := fop h3
  have o4 := fop h4
  have o5 := fop h5
  have S1 := Lib.hid (prod_w h1)
  have S2 := Lib.hid (quick_w h6)
  have K0 := Lib.hid (HoldP.start w xh xl yh yl)
  clear h1 h2 h3 h4 h5 h6
  go_enter Try.func25, Try.ntmps25
  go_wp2_with fail
  refine (S1.out _).mono ?_
  rintro e w1 ⟨rfl, hB1⟩
  have K1 := K0.out.below hB1
  have x0 := K1.1.c0
  have x1 := K1.1.c1
  have y0 := K1.2.1.c0
  have y1 := K1.2.1.c1
  have l1 := K1.1.lt
  have l2 := K1.2.1.lt
  have K1 := Lib.hid K1
  clear hB1 K0 S1
  go_wp2_with fail
  refine (S2.out _).mono ?_
  rintro e w2 ⟨rfl, hB2⟩
  have K2 := (K1.out.below (below1 _ _)).below hB2
  have z0 := K2.2.2.1.c0
  have z1 := K2.2.2.1.c1
  have zf := K2.2.2.1.fz
  have Hfin := Lib.hid (below_pair K2.2.2.2 (b := w.heap.size + 1 + 1) (by omega) hi lo)
  clear hB2 K1 K2 S2 x0 x1 y0 y1 l1 l2
  go_wp2
  exact bodyPost_ret (v := .agg #[.float .f64 hi, .float .f64 lo]) (by simp [results, Try.results25, go_sem, z0, z1]) rfl ⟨rfl, Hfin.out⟩
end Go.Proofs.Ytfccpjjdemanbaa
