/- The walk of dyad.Scale of any dyad that can be bare, where there is room. -/
import Derived.Test.YtafgooiakmmfkaaDoorIvRight
namespace Go.Proofs.YtafgooiakmmfkaaDoor
open Go.RowKit

theorem below_2wI (w : World) (o1 o2 : Obj) : Below w.heap.size w ((w.alloc o1).alloc o2) := ((Below.refl _ _).alloc (Nat.le_refl _) _).alloc (by simp) _
set_option maxHeartbeats 2000000 in
set_option maxRecDepth 20000 in
theorem iscale_yes (d : Dy) (g : Bool) (A : Option Addr) (n c : Nat) (xs : List Nat) (e0 k : Int) (w : World) (hA : Lim w A n c xs) (hn : n ≤ 4294967296) (hT : Tab w) (hm : mk g (val xs) e0 = some d) (h0 : d.V ≠ 0) (he1 : -100000 ≤ d.e) (he2 : d.e ≤ 100000) (hk1 : -100000 ≤ k) (hk2 : k ≤ 100000) :
    Calls Tryd.prog 53 #[.agg #[.bool g, .slice A n c, .int .i64 e0], .int .i64 k] w (Told w (some ⟨d.neg, d.V, d.e + k⟩) n) := by
  have a1 := below_2wI w (.cells #[.bool g, .slice A n c, .int .i64 e0] 36) (.cells #[.bool false, .slice none 0 0, .int .i64 0] 36)
  have b1 := (Bd.new w 36 g A n c e0).alloc (.cells #[.bool false, .slice none 0 0, .int .i64 0] 36)
  have b2 := Bd.new (w.alloc (.cells #[.bool g, .slice A n c, .int .i64 e0] 36)) 36 false none 0 0 0
  rw [World.size_alloc] at b2
  have H1 := dbare_any g A n c xs e0 _ (hA.below a1) hn (hT.below a1)
  rw [hm] at H1
  replace H1 := Lib.hid H1
  have HB := Lib.hid b1
  have HR := Lib.hid b2
  have HS := Lib.hid a1
  have x0 := b1.c0
  have x1 := b1.c1
  have x2 := b1.c2
  obtain ⟨g', V, f⟩ := d
  dsimp only at h0 he1 he2 H1 ⊢
  have H0 : Hid (V ≠ 0) := h0
  obtain ⟨q1, hq1⟩ : ∃ q : Int, -1073741824 - f = q := ⟨_, rfl⟩
  obtain ⟨q2, hq2⟩ : ∃ q : Int, 1073741824 - f = q := ⟨_, rfl⟩
  have wq1 : IntKind.i64.wrap (-1073741824 - f) = q1 := by rw [hq1, IntKind.wrap_i64]; omega
  have wq2 : IntKind.i64.wrap (1073741824 - f) = q2 := by rw [hq2, IntKind.wrap_i64]; omega
  have d1 : decide (k < q1) = false := decide_eq_false (by omega)
  have d2 : decide (q2 < k) = false := decide_eq_false (by omega)
  obtain ⟨t, ht⟩ : ∃ t : Int, f + k = t := ⟨_, rfl⟩
  have wt : IntKind.i64.wrap (f + k) = t := by rw [ht, IntKind.wrap_i64]; omega
  rw [ht]
  clear hA hT hm h0 a1 b1 b2 hq1 hq2 ht he1 he2 hk1 hk2
  go_enter Tryd.func53, Tryd.ntmps53
  go_wp2_with fail
  refine H1.out.mono ?_
  rintro e w1 ⟨g1, A1, m1, c1, zs, E1, r1, rfl, hm1, hl1, hb1, ⟨hr1, hg1, hz1, hE1⟩, hB1⟩
  dsimp only at hr1 hg1 hz1 hE1
  subst g1 E1 r1
  clear x0 x1 x2 H1
  replace HB := Lib.hid (HB.out.below hB1)
  replace HR := Lib.hid (HR.out.below hB1)
  replace HS := Lib.hid (HS.out.trans (hB1.mono HS.out.size))
  have x0 := HB.out.c0
  have x1 := HB.out.c1
  have x2 := HB.out.c2
  have xf := HB.out.fz
  obtain ⟨sv, hsv⟩ : ∃ sv, sgD g' (val zs) = sv := ⟨_, rfl⟩
  have ds : (sv == (0 : Int)) = false := beq_no (by rw [← hsv]; unfold sgD; rw [if_neg (by rw [hz1]; exact H0.out)]; cases g' <;> decide)
  have HB' := HB.out.put g' A1 m1 c1 f
  have hl' := HB.out.lim hl1 g' A1 m1 c1 f
  have H2 := Lib.hid (sign_l sv g' A1 m1 c1 zs f _ hl' (by omega) hsv)
  have HR' := HR.out.other (b' := w.heap.size) (by omega) g' A1 m1 c1 f
  have HS' := below_put HS.out (Nat.le_refl _) g' A1 m1 c1 f
  have HL := Lib.hid hl'
  replace HB := Lib.hid HB'
  replace HR := Lib.hid HR'
  replace HS := Lib.hid HS'
  have HZ : Hid (Bare zs ∧ val zs = V) := ⟨hb1, hz1⟩
  clear hl1 hb1 hz1 hB1 hsv HB' hl' HR' HS'
  go_wp2_with fail
  refine H2.out.mono ?_
  rintro e w2 ⟨rfl, hB2⟩
  clear x0 x1 x2 xf H2
  replace HB := Lib.hid (HB.out.below hB2)
  replace HR := Lib.hid (HR.out.below hB2)
  replace HS := Lib.hid (HS.out.trans (hB2.mono HS.out.size))
  replace HL := Lib.hid (HL.out.below hB2)
  have x0 := HB.out.c0
  have x1 := HB.out.c1
  have x2 := HB.out.c2
  have y0 := HR.out.c0
  have y1 := HR.out.c1
  have y2 := HR.out.c2
  have yf := HR.out.fz
  have Hfin : Hid (Told w (some ⟨g', V, t⟩) n (.returned (.tuple #[.agg #[.bool g', .slice A1 m1 c1, .int .i64 t], .int .i64 0])) (World.put w2 (w.heap.size + 1) g' A1 m1 c1 t)) :=
    ⟨g', A1, m1, c1, zs, t, 0, rfl, hm1, HR.out.lim HL.out _ _ _ _ _, HZ.out.1, ⟨rfl, rfl, HZ.out.2, rfl⟩, below_put HS.out (by omega) _ _ _ _ _⟩
  clear HB HR HS HL HZ H0 hB2
  go_wp2
  exact bodyPost_ret (v := .tuple #[.agg #[.bool g', .slice A1 m1 c1, .int .i64 t], .int .i64 0]) (by simp [results, Tryd.results53, go_sem, y0, y1, y2]) rfl Hfin.out
set_option maxHeartbeats 2000000 in
set_option maxRecDepth 20000 in
theorem iscale_nought (d : Dy) (g : Bool) (A : Option Addr) (n c : Nat) (xs : List Nat) (e0 k : Int) (w : World) (hA : Lim w A n c xs) (hn : n ≤ 4294967296) (hT : Tab w) (hm : mk g (val xs) e0 = some d) (h0 : d.V = 0) :
    Calls Tryd.prog 53 #[.agg #[.bool g, .slice A n c, .int .i64 e0], .int .i64 k] w (Told w (some ⟨false, 0, 0⟩) n) := by
  have a1 := below_2wI w (.cells #[.bool g, .slice A n c, .int .i64 e0] 36) (.cells #[.bool false, .slice none 0 0, .int .i64 0] 36)
  have b1 := (Bd.new w 36 g A n c e0).alloc (.cells #[.bool false, .slice none 0 0, .int .i64 0] 36)
  have b2 := Bd.new (w.alloc (.cells #[.bool g, .slice A n c, .int .i64 e0] 36)) 36 false none 0 0 0
  rw [World.size_alloc] at b2
  have H1 := dbare_any g A n c xs e0 _ (hA.below a1) hn (hT.below a1)
  rw [hm] at H1
  replace H1 := Lib.hid H1
  have HB := Lib.hid b1
  have HR := Lib.hid b2
  have HS := Lib.hid a1
  have x0 := b1.c0
  have x1 := b1.c1
  have x2 := b1.c2
  obtain ⟨g', V, f⟩ := d
  dsimp only at h0 H1
  have H0 : Hid (V = 0) := h0
  clear hA hT hm h0 a1 b1 b2
  go_enter Tryd.func53, Tryd.ntmps53
  go_wp2_with fail
  refine H1.out.mono ?_
  rintro e w1 ⟨g1, A1, m1, c1, zs, E1, r1, rfl, hm1, hl1, hb1, ⟨hr1, hg1, hz1, hE1⟩, hB1⟩
  dsimp only at hr1 hg1 hz1 hE1
  subst g1 E1 r1
  clear x0 x1 x2 H1
  replace HB := Lib.hid (HB.out.below hB1)
  replace HR := Lib.hid (HR.out.below hB1)
  replace HS := Lib.hid (HS.out.trans (hB1.mono HS.out.size))
  have x0 := HB.out.c0
  have x1 := HB.out.c1
  have x2 := HB.out.c2
  have xf := HB.out.fz
  obtain ⟨sv, hsv⟩ : ∃ sv, sgD g' (val zs) = sv := ⟨_, rfl⟩
  have ds : (sv == (0 : Int)) = true := beq_yes (by rw [← hsv]; unfold sgD; rw [if_pos (by rw [hz1]; exact H0.out)])
  have HB' := HB.out.put g' A1 m1 c1 f
  have hl' := HB.out.lim hl1 g' A1 m1 c1 f
  have H2 := Lib.hid (sign_l sv g' A1 m1 c1 zs f _ hl' (by omega) hsv)
  have HR' := HR.out.other (b' := w.heap.size) (by omega) g' A1 m1 c1 f
  have HS' := below_put HS.out (Nat.le_refl _) g' A1 m1 c1 f
  have HL := Lib.hid hl'
  replace HB := Lib.hid HB'
  replace HR := Lib.hid HR'
  replace HS := Lib.hid HS'
  have HZ : Hid (Bare zs ∧ val zs = V) := ⟨hb1, hz1⟩
  clear hl1 hb1 hz1 hB1 hsv HB' hl' HR' HS'
  go_wp2_with fail
  refine H2.out.mono ?_
  rintro e w2 ⟨rfl, hB2⟩
  clear x0 x1 x2 xf H2
  replace HB := Lib.hid (HB.out.below hB2)
  replace HR := Lib.hid (HR.out.below hB2)
  replace HS := Lib.hid (HS.out.trans (hB2.mono HS.out.size))
  replace HL := Lib.hid (HL.out.below hB2)
  have x0 := HB.out.c0
  have x1 := HB.out.c1
  have x2 := HB.out.c2
  have y0 := HR.out.c0
  have y1 := HR.out.c1
  have y2 := HR.out.c2
  have yf := HR.out.fz
  have Hfin : Hid (Told w (some ⟨false, 0, 0⟩) n (.returned (.tuple #[.agg #[.bool false, .slice none 0 0, .int .i64 0], .int .i64 0])) (World.put w2 (w.heap.size + 1) false none 0 0 0)) :=
    ⟨false, none, 0, 0, [], 0, 0, rfl, Nat.zero_le _, Lim.nil _ _ _, rfl, ⟨rfl, rfl, rfl, rfl⟩, below_put HS.out (by omega) _ _ _ _ _⟩
  clear HB HR HS HL HZ H0 hB2
  go_wp2
  exact bodyPost_ret (v := .tuple #[.agg #[.bool false, .slice none 0 0, .int .i64 0], .int .i64 0]) (by simp [results, Tryd.results53, go_sem, y0, y1, y2]) rfl Hfin.out
end Go.Proofs.YtafgooiakmmfkaaDoor
