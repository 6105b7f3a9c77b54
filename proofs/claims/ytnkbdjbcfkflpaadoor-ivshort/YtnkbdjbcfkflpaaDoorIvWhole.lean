/- The walk of round.Whole of a number that isn't 0, in its reach. -/
import Derived.Test.YtnkbdjbcfkflpaaDoorIvCut
import Derived.Test.YtnkbdjbcfkflpaaDoorRnDo
import Derived.Test.YtnkbdjbcfkflpaaDoorK2
namespace Go.Proofs.YtnkbdjbcfkflpaaDoor
open Go.RowKit

/-- What Whole tells: a dyad, whether it isn't what it was, no error. -/
def WhTold (w : World) (o : Dy) (ix : Bool) (L : Nat) (e : Ending) (w' : World) : Prop :=
  ∃ A m c zs, e = .returned (.tuple #[.agg #[.bool o.neg, .slice A m c, .int .i64 o.e], .bool ix, .int .i64 0]) ∧ m ≤ L ∧ Lim w' A m c zs ∧ Bare zs ∧ val zs = o.V ∧ Below w.heap.size w w'

set_option maxHeartbeats 2000000 in
set_option maxRecDepth 20000 in
theorem whole_yes (g : Bool) (A : Option Addr) (n c : Nat) (xs : List Nat) (e0 dir u : Int) (d o : Dy) (H B v : Bool) (U V2 : Nat) (w : World) (hA : Lim w A n c xs) (hn : n ≤ 4294967000) (hT : Tab w) (hm : mk g (val xs) e0 = some d) (hd0 : d.V ≠ 0) (hdir : 0 ≤ dir ∧ dir ≤ 3)
    (hu1 : -536870912 ≤ u) (hu2 : u ≤ 536870912) (he1 : u - 4096 ≤ d.e) (he2 : d.e ≤ u + 4096) (hU : Hid (rU d.V d.e u = U)) (hH : Hid (rH d.V d.e u = H)) (hB : Hid (rB d.V d.e u = B)) (hv : Hid (awy d.neg dir (decide (U % 2 = 1)) H (B || false) = v)) (hV2 : Hid (U + v.toNat = V2)) (ho : mk d.neg V2 u = some o) :
    Calls Tryd.prog 74 #[.agg #[.bool g, .slice A n c, .int .i64 e0], .bool false, .int .i64 dir, .int .i64 u] w (WhTold w o (H || (B || false)) (n + 67)) := by
  obtain ⟨ix, hix⟩ : ∃ ix, (H || (B || false)) = ix := ⟨_, rfl⟩
  rw [hix]
  have HIx := Lib.hid hix
  clear hix
  have a1 : Below w.heap.size w ((w.alloc (.cells #[.bool g, .slice A n c, .int .i64 e0] 36)).alloc (.cells #[.bool false, .slice none 0 0, .int .i64 0] 36)) := ((Below.refl _ _).alloc (Nat.le_refl _) _).alloc (by simp) _
  have b1 := (Bd.new w 36 g A n c e0).alloc (.cells #[.bool false, .slice none 0 0, .int .i64 0] 36)
  have b2 := Bd.new (w.alloc (.cells #[.bool g, .slice A n c, .int .i64 e0] 36)) 36 false none 0 0 0
  rw [World.size_alloc] at b2
  have H1 := chk_l g A n c xs e0 false dir _ (hA.below a1) hn (hT.below a1)
  rw [show chk (mk g (val xs) e0) false dir = some d by rw [hm]; unfold chk; rw [if_pos hdir]; simp] at H1
  replace H1 := Lib.hid H1
  have HB := Lib.hid b1
  have HR := Lib.hid b2
  have HS := Lib.hid a1
  have HT := Lib.hid (hT.below a1)
  have hf := (mk_fine hm).1
  have hf1 := hf.1
  have hf2 := hf.2.1
  have x0 := b1.c0
  have x1 := b1.c1
  have x2 := b1.c2
  obtain ⟨dg, dV, dE⟩ := d
  dsimp only at *
  obtain ⟨q1, hq1⟩ : ∃ q : Int, u - 4096 = q := ⟨_, rfl⟩
  obtain ⟨q2, hq2⟩ : ∃ q : Int, u + 4096 = q := ⟨_, rfl⟩
  have wq1 : IntKind.i64.wrap (u - 4096) = q1 := by rw [hq1, IntKind.wrap_i64]; omega
  have wq2 : IntKind.i64.wrap (u + 4096) = q2 := by rw [hq2, IntKind.wrap_i64]; omega
  have d1 : decide (u < -536870912) = false := decide_eq_false (by omega)
  have d2 : decide (536870912 < u) = false := decide_eq_false (by omega)
  have d3 : decide (dE < q1) = false := decide_eq_false (by omega)
  have d4 : decide (q2 < dE) = false := decide_eq_false (by omega)
  have HN : Hid ((-2147483648 ≤ dE ∧ dE ≤ 2147483648) ∧ (-2147483648 ≤ u ∧ u ≤ 2147483648) ∧ dE ≤ u + 4096 ∧ dV ≠ 0) := ⟨⟨by omega, by omega⟩, ⟨by omega, by omega⟩, he2, hd0⟩
  have HO : Hid (mk dg V2 u = some o) := ho
  clear hA hT hm hd0 a1 b1 b2 hq1 hq2 he1 he2 hu1 hu2 hf hf1 hf2 ho hdir
  go_enter Tryd.func74, Tryd.ntmps74
  go_wp2_with fail
  refine H1.out.mono ?_
  rintro e w1 ⟨A1, m1, c1, zs, rfl, hm1, hl1, hb1, hz1, hB1⟩
  dsimp only at hz1
  clear x0 x1 x2 H1
  replace HB := Lib.hid (HB.out.below hB1)
  replace HR := Lib.hid (HR.out.below hB1)
  replace HS := Lib.hid (HS.out.trans (hB1.mono HS.out.size))
  replace HT := Lib.hid (HT.out.below hB1)
  have x0 := HB.out.c0
  have x1 := HB.out.c1
  have x2 := HB.out.c2
  have xf := HB.out.fz
  obtain ⟨sv, hsv⟩ : ∃ sv, sgD dg (val zs) = sv := ⟨_, rfl⟩
  have ds : (sv == (0 : Int)) = false := beq_no (by rw [← hsv]; unfold sgD; rw [if_neg (by rw [hz1]; exact HN.out.2.2.2)]; cases dg <;> decide)
  have HB' := HB.out.put dg A1 m1 c1 dE
  have hl' := HB.out.lim hl1 dg A1 m1 c1 dE
  have H2 := Lib.hid (sign_l sv dg A1 m1 c1 zs dE _ hl' (by omega) hsv)
  have HR' := HR.out.other (b' := w.heap.size) (by omega) dg A1 m1 c1 dE
  have HS' := below_put HS.out (Nat.le_refl _) dg A1 m1 c1 dE
  have HT' := HB.out.tab HT.out dg A1 m1 c1 dE
  have HL := Lib.hid hl'
  replace HB := Lib.hid HB'
  replace HR := Lib.hid HR'
  replace HS := Lib.hid HS'
  replace HT := Lib.hid HT'
  have HZ : Hid (Bare zs ∧ val zs = dV) := ⟨hb1, hz1⟩
  clear hl1 hb1 hz1 hB1 hsv HB' hl' HR' HS' HT'
  go_wp2_with fail
  refine H2.out.mono ?_
  rintro e w2 ⟨rfl, hB2⟩
  clear x0 x1 x2 xf H2
  replace HB := Lib.hid (HB.out.below hB2)
  replace HR := Lib.hid (HR.out.below hB2)
  replace HS := Lib.hid (HS.out.trans (hB2.mono HS.out.size))
  replace HT := Lib.hid (HT.out.below hB2)
  replace HL := Lib.hid (HL.out.below hB2)
  have x0 := HB.out.c0
  have x1 := HB.out.c1
  have x2 := HB.out.c2
  have H3 := (count_big v H B false U V2 dg A1 m1 c1 zs dE u dir w2 HL.out (by omega) HT.out HN.out.1.1 HN.out.1.2 HN.out.2.1.1 HN.out.2.1.2 HN.out.2.2.1 (by rw [HZ.out.2]; exact hU) (by rw [HZ.out.2]; exact hH) (by rw [HZ.out.2]; exact hB) hv hV2)
  rw [HIx.out] at H3
  replace H3 := Lib.hid H3
  clear hB2 HL HZ hU hH hB hv hV2 HIx
  go_wp2_with fail
  refine H3.out.mono ?_
  rintro e w3 ⟨A2, m2, c2, ys, rfl, hm2, hl2, hb2, hv2, hB3⟩
  clear x0 x1 x2 H3
  replace HB := Lib.hid (HB.out.below hB3)
  replace HR := Lib.hid (HR.out.below hB3)
  replace HS := Lib.hid (HS.out.trans (hB3.mono HS.out.size))
  replace HT := Lib.hid (HT.out.below hB3)
  have x0 := HB.out.c0
  have H4 := make_any dg A2 m2 c2 ys u w3 hl2 (by omega) HT.out
  rw [hv2, HO.out] at H4
  replace H4 := Lib.hid H4
  clear hl2 hb2 hv2 hB3
  go_wp2_with fail
  refine H4.out.mono ?_
  rintro e w4 ⟨g5, A5, m5, c5, us, E5, r5, rfl, hm5, hl5, hb5, ⟨hr, hg, hv5, hE⟩, hB4⟩
  subst hr hg hE
  clear x0 H4
  have ba := below1 w4 (.cells #[.bool o.neg, .slice A5 m5 c5, .int .i64 o.e] 36)
  have HD := Lib.hid (Bd.new w4 36 o.neg A5 m5 c5 o.e)
  replace HR := Lib.hid ((HR.out.below hB4).below ba)
  have hs4 := HS.out.trans (hB4.mono HS.out.size)
  replace HS := Lib.hid (hs4.trans (ba.mono hs4.size))
  have z0 := HD.out.c0
  have z1 := HD.out.c1
  have z2 := HD.out.c2
  have y0 := HR.out.c0
  have y1 := HR.out.c1
  have y2 := HR.out.c2
  have yf := HR.out.fz
  have Hfin : Hid (WhTold w o ix (n + 67) (.returned (.tuple #[.agg #[.bool o.neg, .slice A5 m5 c5, .int .i64 o.e], .bool ix, .int .i64 0])) (World.put (w4.alloc (.cells #[.bool o.neg, .slice A5 m5 c5, .int .i64 o.e] 36)) (w.heap.size + 1) o.neg A5 m5 c5 o.e)) :=
    ⟨A5, m5, c5, us, rfl, by omega, HR.out.lim (hl5.below ba) _ _ _ _ _, hb5, hv5, below_put HS.out (by omega) _ _ _ _ _⟩
  clear HR HS HT HB HD HN HO hl5 hb5 hv5 hB4 ba hs4
  cases ix with
  | false =>
    go_wp2
    exact bodyPost_ret (v := .tuple #[.agg #[.bool o.neg, .slice A5 m5 c5, .int .i64 o.e], .bool false, .int .i64 0]) (by simp [results, Tryd.results74, go_sem, y0, y1, y2]) rfl Hfin.out
  | true =>
    go_wp2
    exact bodyPost_ret (v := .tuple #[.agg #[.bool o.neg, .slice A5 m5 c5, .int .i64 o.e], .bool true, .int .i64 0]) (by simp [results, Tryd.results74, go_sem, y0, y1, y2]) rfl Hfin.out
end Go.Proofs.YtnkbdjbcfkflpaaDoor
