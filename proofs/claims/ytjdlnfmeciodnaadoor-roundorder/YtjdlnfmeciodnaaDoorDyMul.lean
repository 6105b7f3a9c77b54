/- The walks of dyad.Mul and of dyad.Minus (where the dyad can be bare). -/
import Derived.Test.YtjdlnfmeciodnaaDoorDyAdd
import Derived.Test.YtjdlnfmeciodnaaDoorPMul
namespace Go.Proofs.YtjdlnfmeciodnaaDoor
open Go.RowKit


set_option maxHeartbeats 4000000 in
theorem minus_any (b : Dy) (g : Bool) (A : Option Addr) (n c : Nat) (xs : List Nat) (e1 : Int) (w : World) (hA : Lim w A n c xs) (hn : n ≤ 1000000) (hT : Tab w) (ho : Hid (mk (!g) (val xs) e1 = some b)) :
    Calls Tryd.prog 11 #[.agg #[.bool g, .slice A n c, .int .i64 e1]] w (Tells1 w b.neg b.V n b.e) := by
  have a3 : Below w.heap.size w ((w.alloc (.cells #[.bool g, .slice A n c, .int .i64 e1] 35)).alloc (.cells #[.bool false, .slice none 0 0, .int .i64 0] 35)) := ((Below.refl _ _).alloc (Nat.le_refl _) _).alloc (by simp) _
  have H1 := Lib.hid (make_any (!g) A n c xs e1 _ (hA.below a3) (by omega) (hT.below a3))
  have b2 := Bd.new (w.alloc (.cells #[.bool g, .slice A n c, .int .i64 e1] 35)) 35 false none 0 0 0
  rw [World.size_alloc] at b2
  have Hb2 := Lib.hid b2
  have HS := Lib.hid a3
  rw [ho.out] at H1
  clear hA a3 b2 hT ho
  go_enter Tryd.func11, Tryd.ntmps11
  go_wp2_with fail
  refine H1.out.mono ?_
  rintro e w1 ⟨g1, A1, m1, c1, zs, E1, r1, rfl, hm1, hl1, hb1, ⟨rfl, rfl, hz, rfl⟩, hB1⟩
  have k2 := Hb2.out.below hB1
  have Hfin : Hid (Tells1 w b.neg b.V n b.e (.returned (.agg #[.bool b.neg, .slice A1 m1 c1, .int .i64 b.e])) (World.put (w1.alloc (.cells #[.bool b.neg, .slice A1 m1 c1, .int .i64 b.e] 35)) (w.heap.size + 1) b.neg A1 m1 c1 b.e)) :=
    ⟨A1, m1, c1, zs, rfl, hm1, (k2.alloc _).lim (hl1.alloc _) _ _ _ _ _, hb1, hz, below_put ((HS.out.trans (hB1.mono HS.out.size)).alloc (HS.out.trans (hB1.mono HS.out.size)).size _) (Nat.le_succ _) _ _ _ _ _⟩
  have y0 := fun o => (k2.alloc o).c0
  have y1 := fun o => (k2.alloc o).c1
  have y2 := fun o => (k2.alloc o).c2
  have yf := fun o => (k2.alloc o).fz
  clear k2 hB1 hl1 hb1 H1 Hb2 HS hz
  go_wp2
  exact bodyPost_ret (v := .agg #[.bool b.neg, .slice A1 m1 c1, .int .i64 b.e]) (by simp [results, Tryd.results11, go_sem, y0, y1, y2]) rfl Hfin.out
end Go.Proofs.YtjdlnfmeciodnaaDoor
