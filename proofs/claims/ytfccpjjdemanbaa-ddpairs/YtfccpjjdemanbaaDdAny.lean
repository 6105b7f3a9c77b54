/- dd's functions of any float64 at all: a pair is told, whatever it is (an operation without an answer tells some NaN). -/
import Derived.Test.YtfccpjjdemanbaaDdAdd
namespace Go.Proofs.Ytfccpjjdemanbaa
open Go.RowKit

/-- What an operation tells, and how often it drew. -/
def fbR (op : BinOp) (x y : Nat) (w : World) : Nat := match floatBits op .f64 x y with
  | some r => r
  | none => (Question.nanBits .f64 x y).cut (w.tape w.drawn (.nanBits .f64 x y))
def fbN (op : BinOp) (x y : Nat) : Nat := if (floatBits op .f64 x y).isSome then 0 else 1
theorem drewN_zero (w : World) : w.drewN 0 = w := rfl
theorem any_op {op : BinOp} (ho : op = .add ∨ op = .sub ∨ op = .mul) (x y : Nat) (t : TypeId) (w : World) : (binOp op t (.float .f64 x) (.float .f64 y)).run Try.prog w = .ok (.float .f64 (fbR op x y w)) (w.drewN (fbN op x y)) := by
  unfold fbR fbN
  cases h : floatBits op .f64 x y with
  | some r => exact run_float_arith w op t .f64 x y r h
  | none =>
    rcases ho with rfl | rfl | rfl <;> (
      have h' := h
      unfold floatBits at h'
      simp only at h'
      simp [binOp, Op.floatArith, h', Question.forced]
      rfl)
/-- Some pair is told. -/
def PAny (w : World) (e : Ending) (w' : World) : Prop := ∃ h l : Nat, e = .returned (.agg #[.float .f64 h, .float .f64 l]) ∧ Below w.heap.size w w'
theorem step_op {op : BinOp} (ho : op = .add ∨ op = .sub ∨ op = .mul) (x y : Nat) (w : World) : ∃ r n, ∀ t, (binOp op t (.float .f64 x) (.float .f64 y)).run Try.prog w = .ok (.float .f64 r) (w.drewN n) := ⟨_, _, fun t => any_op ho x y t w⟩
theorem step_opN {op : BinOp} (ho : op = .add ∨ op = .sub ∨ op = .mul) (x y : Nat) (w : World) (m : Nat) : ∃ r n, ∀ t, (binOp op t (.float .f64 x) (.float .f64 y)).run Try.prog (w.drewN m) = .ok (.float .f64 r) (w.drewN n) := ⟨fbR op x y (w.drewN m), m + fbN op x y, fun t => by rw [any_op ho x y t (w.drewN m)]; congr 1; simp [World.drewN, Nat.add_assoc]⟩
theorem Pb.drewN {w : World} {b h l : Nat} (hh : Pb w b h l) (n : Nat) : Pb (w.drewN n) b h l := hh

theorem quick_any (a b : Nat) (w : World) : Calls Try.prog 17 #[.float .f64 a, .float .f64 b] w (PAny w) := by
  obtain ⟨r1, n1, o1⟩ := step_op (Or.inl rfl) a b (w.alloc (.cells #[.float .f64 0, .float .f64 0] 33))
  obtain ⟨r2, n2, o2⟩ := step_opN (Or.inr (Or.inl rfl)) r1 a (w.alloc (.cells #[.float .f64 0, .float .f64 0] 33)) n1
  obtain ⟨r3, n3, o3⟩ := step_opN (Or.inr (Or.inl rfl)) b r2 (w.alloc (.cells #[.float .f64 0, .float .f64 0] 33)) n2
  have k := (Pb.new w 0 0).drewN n3
  have y0 := k.c0
  have y1 := k.c1
  have yf := k.fz
  have Hfin := Lib.hid (below_pair (below_drewN (below1 w (.cells #[.float .f64 0, .float .f64 0] 33)) n3) (b := w.heap.size) (Nat.le_refl _) r1 r3)
  clear k
  go_enter Try.func17, Try.ntmps17
  go_wp2
  exact bodyPost_ret (v := .agg #[.float .f64 r1, .float .f64 r3]) (by simp [results, Try.results17, go_sem]) rfl ⟨_, _, rfl, Hfin.out⟩
theorem split_any (a : Nat) (w : World) : Calls Try.prog 18 #[.float .f64 a] w (PAny w) := by
  obtain ⟨r1, n1, o1⟩ := step_op (Or.inr (Or.inr rfl)) 4728779608772575232 a (w.alloc (.cells #[.float .f64 0, .float .f64 0] 33))
  obtain ⟨r2, n2, o2⟩ := step_opN (Or.inr (Or.inl rfl)) r1 a (w.alloc (.cells #[.float .f64 0, .float .f64 0] 33)) n1
  obtain ⟨r3, n3, o3⟩ := step_opN (Or.inr (Or.inl rfl)) r1 r2 (w.alloc (.cells #[.float .f64 0, .float .f64 0] 33)) n2
  obtain ⟨r4, n4, o4⟩ := step_opN (Or.inr (Or.inl rfl)) a r3 (w.alloc (.cells #[.float .f64 0, .float .f64 0] 33)) n3
  have k := (Pb.new w 0 0).drewN n4
  have y0 := k.c0
  have y1 := k.c1
  have yf := k.fz
  have Hfin := Lib.hid (below_pair (below_drewN (below1 w (.cells #[.float .f64 0, .float .f64 0] 33)) n4) (b := w.heap.size) (Nat.le_refl _) r3 r4)
  clear k
  go_enter Try.func18, Try.ntmps18
  go_wp2
  exact bodyPost_ret (v := .agg #[.float .f64 r3, .float .f64 r4]) (by simp [results, Try.results18, go_sem]) rfl ⟨_, _, rfl, Hfin.out⟩

theorem Pb.set {w : World} {b h l : Nat} (hh : Pb w b h l) (x y : Nat) : Pb ((w.setCell ⟨b, 0, none⟩ (.float .f64 x)).setCell ⟨b, 1, none⟩ (.float .f64 y)) b x y := by
  unfold Pb at *
  simp [World.setCell, Array.getElem?_modify, hh]
theorem prod_any (a b : Nat) (w : World) : Calls Try.prog 22 #[.float .f64 a, .float .f64 b] w (PAny w) := by
  obtain ⟨p, n1, o1⟩ := step_op (Or.inr (Or.inr rfl)) a b (w.alloc (.cells #[.float .f64 0, .float .f64 0] 33))
  have Hb := Lib.hid ((Pb.new w 0 0).drewN n1)
  have HS := Lib.hid (below_drewN (below1 w (.cells #[.float .f64 0, .float .f64 0] 33)) n1)
  go_enter Try.func22, Try.ntmps22
  go_wp2_with fail
  refine (split_any a _).mono ?_
  rintro e w1 ⟨ah, al, rfl, hB1⟩
  clear o1
  go_wp2_with fail
  refine (split_any b _).mono ?_
  rintro e w2 ⟨bh, bl, rfl, hB2⟩
  have k2 := (Hb.out.below hB1).below hB2
  have hsz := k2.lt
  have H2 : Hid (Below w.heap.size w w2) := (HS.out.trans (hB1.mono HS.out.size)).trans (hB2.mono (HS.out.trans (hB1.mono HS.out.size)).size)
  obtain ⟨wp, hwp⟩ : ∃ wp, (w2.alloc (.cells #[.float .f64 ah, .float .f64 al] 33)).alloc (.cells #[.float .f64 bh, .float .f64 bl] 33) = wp := ⟨_, rfl⟩
  obtain ⟨t1, j1, e1⟩ := step_op (Or.inr (Or.inr rfl)) ah bh wp
  obtain ⟨r1, j2, e2⟩ := step_opN (Or.inr (Or.inl rfl)) t1 p wp j1
  obtain ⟨t2, j3, e3⟩ := step_opN (Or.inr (Or.inr rfl)) ah bl wp j2
  obtain ⟨r2, j4, e4⟩ := step_opN (Or.inl rfl) r1 t2 wp j3
  obtain ⟨t3, j5, e5⟩ := step_opN (Or.inr (Or.inr rfl)) al bh wp j4
  obtain ⟨r3, j6, e6⟩ := step_opN (Or.inl rfl) r2 t3 wp j5
  obtain ⟨t4, j7, e7⟩ := step_opN (Or.inr (Or.inr rfl)) al bl wp j6
  obtain ⟨r4, j8, e8⟩ := step_opN (Or.inl rfl) r3 t4 wp j7
  subst hwp
  have k3 := ((k2.alloc (.cells #[.float .f64 ah, .float .f64 al] 33)).alloc (.cells #[.float .f64 bh, .float .f64 bl] 33)).drewN j8
  have y0 := k3.c0
  have y1 := k3.c1
  have yf := k3.fz
  have z0 := (k3.set p r4).c0
  have z1 := (k3.set p r4).c1
  have Hfin := Lib.hid (below_pair (below_drewN ((H2.out.alloc (by omega) (.cells #[.float .f64 ah, .float .f64 al] 33)).alloc (by simp; omega) (.cells #[.float .f64 bh, .float .f64 bl] 33)) j8) (b := w.heap.size) (Nat.le_refl _) p r4)
  have z0 := Lib.hid z0
  have z1 := Lib.hid z1
  clear hB1 hB2 k2 k3 HS Hb H2
  go_wp2
  have z0 := z0.out
  have z1 := z1.out
  clear e1 e2 e3 e4 e5 e6 e7 e8 y0 y1 yf
  exact bodyPost_ret (v := .agg #[.float .f64 p, .float .f64 r4]) (by generalize World.setCell _ _ _ = WF at *; simp [results, Try.results22, go_sem, z0, z1]) rfl ⟨_, _, rfl, Hfin.out⟩

theorem HoldP.drewN {w0 : World} {xh xl yh yl : Nat} {w : World} (h : HoldP w0 xh xl yh yl w) (n : Nat) : HoldP w0 xh xl yh yl (w.drewN n) := ⟨h.1, h.2.1, h.2.2.1, below_drewN h.2.2.2 n⟩
theorem mul_any9 (xh xl yh yl : Nat) (w : World) : Calls Try.prog 25 #[.agg #[.float .f64 xh, .float .f64 xl], .agg #[.float .f64 yh, .float .f64 yl]] w (PAny w) := by
  have K0 := Lib.hid (HoldP.start w xh xl yh yl)
  go_enter Try.func25, Try.ntmps25
  go_wp2_with fail
  refine (prod_any xh yh _).mono ?_
  rintro e w1 ⟨p, r, rfl, hB1⟩
  have K1 := K0.out.below hB1
  obtain ⟨wp, hwp⟩ : ∃ wp, w1.alloc (.cells #[.float .f64 p, .float .f64 r] 33) = wp := ⟨_, rfl⟩
  obtain ⟨u1, j1, e1⟩ := step_op (Or.inr (Or.inr rfl)) xh yl wp
  obtain ⟨u2, j2, e2⟩ := step_opN (Or.inr (Or.inr rfl)) xl yh wp j1
  obtain ⟨u, j3, e3⟩ := step_opN (Or.inl rfl) u1 u2 wp j2
  obtain ⟨x, j4, e4⟩ := step_opN (Or.inl rfl) r u wp j3
  subst hwp
  have x0 := K1.1.c0
  have x1 := K1.1.c1
  have y0 := K1.2.1.c0
  have y1 := K1.2.1.c1
  have l1 := K1.1.lt
  have l2 := K1.2.1.lt
  have K1 := Lib.hid ((K1.below (below1 w1 (.cells #[.float .f64 p, .float .f64 r] 33))).drewN j4)
  clear hB1 K0
  go_wp2_with fail
  refine (quick_any _ _ _).mono ?_
  rintro e w2 ⟨hi, lo, rfl, hB2⟩
  have K2 := K1.out.below hB2
  have z0 := K2.2.2.1.c0
  have z1 := K2.2.2.1.c1
  have zf := K2.2.2.1.fz
  have Hfin := Lib.hid (below_pair K2.2.2.2 (b := w.heap.size + 1 + 1) (by omega) hi lo)
  clear hB2 K1 K2 x0 x1 y0 y1 l1 l2 e1 e2 e3 e4
  go_wp2
  exact bodyPost_ret (v := .agg #[.float .f64 hi, .float .f64 lo]) (by simp [results, Try.results25, go_sem, z0, z1]) rfl ⟨_, _, rfl, Hfin.out⟩
end Go.Proofs.Ytfccpjjdemanbaa
