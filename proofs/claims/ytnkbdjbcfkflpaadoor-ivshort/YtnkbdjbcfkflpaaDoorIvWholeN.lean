/- round.Whole of a nought. -/
import Derived.Test.YtnkbdjbcfkflpaaDoorIvWhole
namespace Go.Proofs.YtnkbdjbcfkflpaaDoor
open Go.RowKit

set_option maxHeartbeats 2000000 in
set_option maxRecDepth 20000 in
theorem whole_nil (g : Bool) (A : Option Addr) (n c : Nat) (xs : List Nat) (e0 dir u : Int) (d : Dy) (w : World) (hA : Lim w A n c xs) (hn : n ≤ 4294967000) (hT : Tab w) (hm : mk g (val xs) e0 = some d) (hd0 : d.V = 0) (hdir : 0 ≤ dir ∧ dir ≤ 3)
    (hu1 : -536870912 ≤ u) (hu2 : u ≤ 536870912) :
    Calls Tryd.prog 74 #[.agg #[.bool g, .slice A n c, .int .i64 e0], .bool false, .int .i64 dir, .int .i64 u] w (WhTold w ⟨false, 0, 0⟩ false 0) := by
  have a1 : Below w.heap.size w ((w.alloc (.cells #[.bool g, .slice A n c, .int .i64 e0] 36)).alloc (.cells #[.bool false, .slice none 0 0, .int .i64 0] 36)) := ((Below.refl _ _).alloc (Nat.le_refl _) _).alloc (by simp) _
  have b1 := (Bd.new w 36 g A n c e0).alloc (.cells #[.bool false, .slice none 0 0, .int .i64 0] 36)
  have b2 := Bd.new (w.alloc (.cells #[.bool g, .slice A n c, .int .i64 e0] 36)) 36 false none 0 0 0
  rw [World.size_alloc] at b2
  have H1 := chk_l g A n c xs e0 false dir _ (hA.below a1) hn (hT.below a1)
  rw [show chk (mk g (val xs) e0) false dir = some d by rw [hm]; unfold chk; rw [if_pos hdir]; simp] at H1
  replace H1 := Lib.hid H1
  have HB := Lib.hid b1
  have HR := Lib.hid b2
  have HS := Lib.hid a1
  have HT := Lib.hid (hT.below a1)
  have hf := (mk_fine hm).1
  have hf1 := hf.1
  have hf2 := hf.2.1
  have x0 := b1.c0
  have x1 := b1.c1
  have x2 := b1.c2
  obtain ⟨dg, dV, dE⟩ := d
  dsimp only at *
  have d1 : decide (u < -536870912) = false := decide_eq_false (by omega)
  have d2 : decide (536870912 < u) = false := decide_eq_false (by omega)
  have HN : Hid (dV = 0) := hd0
  clear hA hT hm hd0 a1 b1 b2 hu1 hu2 hf hf1 hf2 hdir
  go_enter Tryd.func74, Tryd.ntmps74
  go_wp2_with fail
  refine H1.out.mono ?_
  rintro e w1 ⟨A1, m1, c1, zs, rfl, hm1, hl1, hb1, hz1, hB1⟩
  dsimp only at hz1
  clear x0 x1 x2 H1
  replace HB := Lib.hid (HB.out.below hB1)
  replace HR := Lib.hid (HR.out.below hB1)
  replace HS := Lib.hid (HS.out.trans (hB1.mono HS.out.size))
  replace HT := Lib.hid (HT.out.below hB1)
  have x0 := HB.out.c0
  have x1 := HB.out.c1
  have x2 := HB.out.c2
  have xf := HB.out.fz
  obtain ⟨sv, hsv⟩ : ∃ sv, sgD dg (val zs) = sv := ⟨_, rfl⟩
  have ds : (sv == (0 : Int)) = true := beq_yes (by rw [← hsv]; unfold sgD; rw [if_pos (by rw [hz1]; exact HN.out)])
  have HB' := HB.out.put dg A1 m1 c1 dE
  have hl' := HB.out.lim hl1 dg A1 m1 c1 dE
  have H2 := Lib.hid (sign_l sv dg A1 m1 c1 zs dE _ hl' (by omega) hsv)
  have HR' := HR.out.other (b' := w.heap.size) (by omega) dg A1 m1 c1 dE
  have HS' := below_put HS.out (Nat.le_refl _) dg A1 m1 c1 dE
  have HT' := HB.out.tab HT.out dg A1 m1 c1 dE
  have HL := Lib.hid hl'
  replace HB := Lib.hid HB'
  replace HR := Lib.hid HR'
  replace HS := Lib.hid HS'
  replace HT := Lib.hid HT'
  have HZ : Hid (Bare zs ∧ val zs = dV) := ⟨hb1, hz1⟩
  clear hl1 hb1 hz1 hB1 hsv HB' hl' HR' HS' HT'
  go_wp2_with fail
  refine H2.out.mono ?_
  rintro e w2 ⟨rfl, hB2⟩
  clear x0 x1 x2 xf H2
  replace HR := Lib.hid (HR.out.below hB2)
  replace HS := Lib.hid (HS.out.trans (hB2.mono HS.out.size))
  have y0 := HR.out.c0
  have y1 := HR.out.c1
  have y2 := HR.out.c2
  have yf := HR.out.fz
  have Hfin : Hid (WhTold w ⟨false, 0, 0⟩ false 0 (.returned (.tuple #[.agg #[.bool false, .slice none 0 0, .int .i64 0], .bool false, .int .i64 0])) (World.put w2 (w.heap.size + 1) false none 0 0 0)) :=
    ⟨none, 0, 0, [], rfl, Nat.le_refl _, Lim.nil _ _ _, rfl, rfl, below_put HS.out (by omega) _ _ _ _ _⟩
  clear HR HS HB HN HL HT HZ hB2
  go_wp2
  exact bodyPost_ret (v := .tuple #[.agg #[.bool false, .slice none 0 0, .int .i64 0], .bool false, .int .i64 0]) (by simp [results, Tryd.results74, go_sem, y0, y1, y2]) rfl Hfin.out
end Go.Proofs.YtnkbdjbcfkflpaaDoor
