/- float64 in the walk: math.Float64bits and Float64frombits (the model's own entries); the walks of dd's Sum, Quick, Split. -/
import Derived.Test.YtfccpjjdemanbaaDdMath
import Derived.Test.YtfccpjjdemanbaaJ1
import Derived.Laws.FloatArith
namespace Go.Proofs.Ytfccpjjdemanbaa
open Go.RowKit

theorem tobits_e (b : Nat) (w : World) : (callFunc 35 #[.float .f64 b]).run Try.prog w = .ok (.value (.int .u64 (b : Int))) w := by
  rw [run_callFunc_extern Try.func35 (by kernel_rfl) (by kernel_rfl) (by kernel_rfl) (e := Extern.MathFloatBits.float64bits) (by kernel_rfl)]
  rfl
theorem frombits_e (b : Nat) (w : World) : (callFunc 10 #[.int .u64 (b : Int)]).run Try.prog w = .ok (.value (.float .f64 b)) w := by
  rw [run_callFunc_extern Try.func10 (by kernel_rfl) (by kernel_rfl) (by kernel_rfl) (e := Extern.MathFloatBits.float64frombits) (by kernel_rfl)]
  rfl

/-- A pair is told. -/
def PTold (w : World) (h l : Nat) (e : Ending) (w' : World) : Prop := e = .returned (.agg #[.float .f64 h, .float .f64 l]) ∧ Below w.heap.size w w'

theorem fop {op : BinOp} {x y r : Nat} (h : floatBits op .f64 x y = some r) : ∀ t w, (binOp op t (.float .f64 x) (.float .f64 y)).run Try.prog w = .ok (.float .f64 r) w := fun t w => run_float_arith w op t .f64 x y r h

@[go_sem] theorem run_store_float (P : Program) (w : World) (a : Addr) (m : Mode) (k : FloatKind) (b : Nat) : (store a (.float k b) m).run P w = stored P w a (.float k b) m := run_store P w a _ m rfl

/-- Block b is a variable that holds a pair. -/
def Pb (w : World) (b h l : Nat) : Prop := w.heap[b]? = some (.cells #[.float .f64 h, .float .f64 l] 33)
section
variable {w w' : World} {b h l : Nat}
theorem Pb.lt (hh : Pb w b h l) : b < w.heap.size := by
  rcases Nat.lt_or_ge b w.heap.size with h' | h'
  · exact h'
  · rw [Pb, Array.getElem?_eq_none h'] at hh; cases hh
theorem Pb.new (w : World) (h l : Nat) : Pb (w.alloc (.cells #[.float .f64 h, .float .f64 l] 33)) w.heap.size h l := by
  show (w.heap.push _)[w.heap.size]? = _
  simp
theorem Pb.below (hh : Pb w b h l) (hb : Below w.heap.size w w') : Pb w' b h l := by
  rw [Pb, hb.block b hh.lt]; exact hh
theorem Pb.alloc (hh : Pb w b h l) (o : Obj) : Pb (w.alloc o) b h l := hh.below (below1 _ o)
theorem Pb.c0 (hh : Pb w b h l) : w.cell? ⟨b, 0, none⟩ = some (.float .f64 h) := by simp [World.cell?, show w.heap[b]? = _ from hh]
theorem Pb.c1 (hh : Pb w b h l) : w.cell? ⟨b, 1, none⟩ = some (.float .f64 l) := by simp [World.cell?, show w.heap[b]? = _ from hh]
theorem Pb.fz (hh : Pb w b h l) (o : Nat) : w.frozen? ⟨b, o, none⟩ = false := by simp [World.frozen?, show w.heap[b]? = _ from hh]
end

theorem sum_w {a b s r : Nat} (h : SumEqs a b s r) (w : World) : Calls Try.prog 13 #[.float .f64 a, .float .f64 b] w (PTold w s r) := by
  obtain ⟨t, u, v, x, h1, h2, h3, h4, h5, h6⟩ := h
  have o1 := fop h1
  have o2 := fop h2
  have o3 := fop h3
  have o4 := fop h4
  have o5 := fop h5
  have o6 := fop h6
  have a1 := Lib.hid (below1 w (.cells #[.float .f64 s, .float .f64 r] 33))
  clear h1 h2 h3 h4 h5 h6
  go_enter Try.func13, Try.ntmps13
  go_wp2
  exact bodyPost_ret (v := .agg #[.float .f64 s, .float .f64 r]) (by simp [results, Try.results13, go_sem]) rfl ⟨rfl, a1.out⟩
theorem quick_w {a b s r : Nat} (h : QuickEqs a b s r) (w : World) : Calls Try.prog 17 #[.float .f64 a, .float .f64 b] w (PTold w s r) := by
  obtain ⟨t, h1, h2, h3⟩ := h
  have o1 := fop h1
  have o2 := fop h2
  have o3 := fop h3
  have a1 := Lib.hid (below1 w (.cells #[.float .f64 s, .float .f64 r] 33))
  clear h1 h2 h3
  go_enter Try.func17, Try.ntmps17
  go_wp2
  exact bodyPost_ret (v := .agg #[.float .f64 s, .float .f64 r]) (by simp [results, Try.results17, go_sem]) rfl ⟨rfl, a1.out⟩
theorem split_w {a s r : Nat} (h : SplitEqs a s r) (w : World) : Calls Try.prog 18 #[.float .f64 a] w (PTold w s r) := by
  obtain ⟨t, q, h1, h2, h3, h4⟩ := h
  have o1 := fop h1
  have o2 := fop h2
  have o3 := fop h3
  have o4 := fop h4
  have a1 := Lib.hid (below1 w (.cells #[.float .f64 s, .float .f64 r] 33))
  clear h1 h2 h3 h4
  go_enter Try.func18, Try.ntmps18
  go_wp2
  exact bodyPost_ret (v := .agg #[.float .f64 s, .float .f64 r]) (by simp [results, Try.results18, go_sem]) rfl ⟨rfl, a1.out⟩

theorem prod_w {a b p r : Nat} (h : ProdEqs a b p r) (w : World) : Calls Try.prog 22 #[.float .f64 a, .float .f64 b] w (PTold w p r) := by
  obtain ⟨ah, al, bh, bl, t1, t2, t3, t4, r1, r2, r3, h0, hsa, hsb, h1, g1, h2, g2, h3, g3, h4, g4⟩ := h
  have o0 := fop h0
  have o1 := fop h1
  have o2 := fop h2
  have o3 := fop h3
  have o4 := fop h4
  have q1 := fop g1
  have q2 := fop g2
  have q3 := fop g3
  have q4 := fop g4
  have Hb := Lib.hid (Pb.new w 0 0)
  have HS := Lib.hid (below1 w (.cells #[.float .f64 0, .float .f64 0] 33))
  have SA := Lib.hid (split_w hsa)
  have SB := Lib.hid (split_w hsb)
  clear h0 h1 h2 h3 h4 g1 g2 g3 g4 hsa hsb
  go_enter Try.func22, Try.ntmps22
  go_wp2_with fail
  refine (SA.out _).mono ?_
  rintro e w1 ⟨rfl, hB1⟩
  go_wp2_with fail
  refine (SB.out _).mono ?_
  rintro e w2 ⟨rfl, hB2⟩
  have k2 := (Hb.out.below hB1).below hB2
  have hsz := k2.lt
  have y0 := k2.c0
  have y1 := k2.c1
  have yg := k2.fz
  have H2 : Hid (Below w.heap.size w w2) := (HS.out.trans (hB1.mono HS.out.size)).trans (hB2.mono (HS.out.trans (hB1.mono HS.out.size)).size)
  have Hfin : Hid (Below w.heap.size w ((((w2.setCell ⟨w.heap.size, 0, none⟩ (.float .f64 p)).setCell ⟨w.heap.size, 1, none⟩ (.float .f64 r)).alloc (.cells #[.float .f64 ah, .float .f64 al] 33)).alloc (.cells #[.float .f64 bh, .float .f64 bl] 33))) :=
    ((((H2.out.setCell (p := ⟨w.heap.size, 0, none⟩) (Nat.le_refl _) _).setCell (p := ⟨w.heap.size, 1, none⟩) (Nat.le_refl _) _).alloc (by simp [World.setCell]; omega) _).alloc (by simp [World.setCell]; omega) _)
  clear hB1 hB2 k2 SA SB HS Hb H2
  go_wp2
  exact bodyPost_ret (v := .agg #[.float .f64 p, .float .f64 r]) (by simp [results, Try.results22, go_sem, y0, y1, hsz]) rfl ⟨rfl, Hfin.out⟩
end Go.Proofs.Ytfccpjjdemanbaa
