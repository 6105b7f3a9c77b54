/- The walks of dyad.Mul and of dyad.Minus (where the dyad can be bare). -/
import Derived.Test.YtffkddnjgbgfpaaDoorDyAdd
import Derived.Test.YtffkddnjgbgfpaaDoorPMul
namespace Go.Proofs.YtffkddnjgbgfpaaDoor
open Go.RowKit

set_option maxHeartbeats 4000000 in
theorem dmul_any (o : Option Dy) (g : Bool) (A : Option Addr) (n c : Nat) (xs : List Nat) (e1 : Int) (k : Bool) (B : Option Addr) (m d : Nat) (ys : List Nat) (e2 : Int) (w : World) (hA : Lim w A n c xs) (hB : Lim w B m d ys) (hn : n ≤ 1000000) (hm : m ≤ 1000000) (hT : Tab w) (ho : Hid (mulO (mk g (val xs) e1) (mk k (val ys) e2) = o)) :
    Calls Tryd.prog 9 #[.agg #[.bool g, .slice A n c, .int .i64 e1], .agg #[.bool k, .slice B m d, .int .i64 e2]] w (Told w o (n + m)) := by
  have h4 := Held3.start w g A n c xs e1 k B m d ys e2 hA hB hT
  have HC := Lib.hid (both_any g A n c xs e1 k B m d ys e2 _ h4.1.2.2.1 h4.1.2.2.2.1 (by omega) (by omega) h4.1.2.2.2.2.1)
  have H4 := Lib.hid h4
  clear hA hB hT h4
  go_enter Tryd.func9, Tryd.ntmps9
  go_wp2_with fail
  refine HC.out.mono ?_
  clear HC
  intro e w1 hT2
  rcases hT2.part with ⟨a, b, h1, h2⟩ | ⟨hno, he, hB1⟩
  case inr =>
    obtain rfl : o = none := by rw [← ho.out]; exact mulO_none hno
    clear hT2 hno ho
    subst he
    have HQ := Lib.hid ((H4.out.below hB1).turn (e1' := 0) (e2' := 0) (g' := false) (k' := false) (Nat.le_refl _) (by omega) (by omega) (Lim.nil _ none 0) (Lim.nil _ none 0))
    obtain ⟨⟨k1, k2, _, _, _, _⟩, k3⟩ := H4.out.below hB1
    have x0 := k1.c0
    have x1 := k1.c1
    have x2 := k1.c2
    have xf := k1.fz
    have y0 := k2.c0
    have y1 := k2.c1
    have y2 := k2.c2
    have yf := k2.fz
    have z0 := k3.c0
    have z1 := k3.c1
    have z2 := k3.c2
    have zf := k3.fz
    have Hfin : Hid (Told w none (n + m) (.returned (.tuple #[.agg #[.bool false, .slice none 0 0, .int .i64 0], .int .i64 2])) (World.put (World.put (World.put w1 w.heap.size false none 0 0 0) (w.heap.size + 1) false none 0 0 0) (w.heap.size + 1 + 1) false none 0 0 0)) :=
      ⟨false, none, 0, 0, [], 0, 2, rfl, Nat.zero_le _, Lim.nil _ _ _, rfl, is_zero, below_put HQ.out.1.2.2.2.2.2 (by omega) _ _ _ _ _⟩
    clear k1 k2 k3 H4 hB1 HQ
    go_wp2
    exact bodyPost_ret (v := .tuple #[.agg #[.bool false, .slice none 0 0, .int .i64 0], .int .i64 2]) (by simp [results, Tryd.results9, go_sem, z0, z1, z2]) rfl Hfin.out
  case inl =>
    rw [h1, h2] at hT2 ho
    obtain ⟨A1, m1, c1, zs, B1, p1, q1, us, rfl, hm1, hp1, hl1, hl2, hb1, hb2, hv1, hv2, hB1⟩ := hT2
    have f1 := (mk_fine h1).1
    have f2 := (mk_fine h2).1
    have HQ := Lib.hid ((H4.out.below hB1).turn (e1' := a.e) (e2' := b.e) (g' := a.neg) (k' := b.neg) (Nat.le_refl _) (by omega) (by omega) hl1 hl2)
    have fe1 := f1.1
    have fe2 := f1.2.1
    have fe3 := f2.1
    have fe4 := f2.2.1
    have Hmb : Hid (mulB a b = o) := ho
    have HVs : Hid (val zs = a.V ∧ val us = b.V) := ⟨hv1, hv2⟩
    obtain ⟨⟨k1, k2, _, _, _, _⟩, k3⟩ := H4.out.below hB1
    have x0 := k1.c0
    have x1 := k1.c1
    have x2 := k1.c2
    have xf := k1.fz
    have y0 := k2.c0
    have y1 := k2.c1
    have y2 := k2.c2
    have yf := k2.fz
    clear k1 k2 k3 hl1 hl2 hb1 hb2 hv1 hv2 hB1 H4 h1 h2 f1 f2 ho
    by_cases hlong : a.V ≠ 0 ∧ b.V ≠ 0 ∧ 65536 < blen a.V + blen b.V
    · obtain rfl : o = none := by rw [← Hmb.out, mulB, if_pos hlong]
      have HM := Lib.hid (mul_long A1 m1 c1 zs B1 p1 q1 us _ HQ.out.1.2.2.1 HQ.out.1.2.2.2.1 (by omega) (by omega) (by rw [HVs.out.1]; exact hlong.1) (by rw [HVs.out.2]; exact hlong.2.1) (by rw [HVs.out.1, HVs.out.2]; exact hlong.2.2))
      have Hfin : Hid (Told w none (n + m) (.returned (.tuple #[.agg #[.bool false, .slice none 0 0, .int .i64 0], .int .i64 2])) (World.put (World.put (World.put w1 w.heap.size a.neg A1 m1 c1 a.e) (w.heap.size + 1) b.neg B1 p1 q1 b.e) (w.heap.size + 1 + 1) false none 0 0 0)) :=
        ⟨false, none, 0, 0, [], 0, 2, rfl, Nat.zero_le _, Lim.nil _ _ _, rfl, is_zero, below_put HQ.out.1.2.2.2.2.2 (by omega) _ _ _ _ _⟩
      obtain ⟨_, k3⟩ := HQ.out
      have z0 := k3.c0
      have z1 := k3.c1
      have z2 := k3.c2
      have zf := k3.fz
      clear k3 HQ hlong Hmb HVs
      go_wp2_with fail
      refine HM.out.mono ?_
      rintro e w' ⟨rfl, rfl⟩
      go_wp2
      exact bodyPost_ret (v := .tuple #[.agg #[.bool false, .slice none 0 0, .int .i64 0], .int .i64 2]) (by simp [results, Tryd.results9, go_sem, z0, z1, z2]) rfl Hfin.out
    · have HM := Lib.hid (mul_any A1 m1 c1 zs B1 p1 q1 us _ HQ.out.1.2.2.1 HQ.out.1.2.2.2.1 (by omega) (by omega) (by rw [HVs.out.1, HVs.out.2]; omega))
      rw [HVs.out.1, HVs.out.2] at HM
      have Hto : Hid (toldD (a.neg != b.neg) (a.V * b.V) (a.e + b.e) = o) := by rw [← Hmb.out, mulB, if_neg hlong]; rfl
      clear hlong Hmb HVs
      generalize a.neg = ga at *
      generalize b.neg = gb at *
      replace Hto : Hid (toldD (!(ga == gb)) (a.V * b.V) (a.e + b.e) = o) := Hto
      obtain ⟨V, hV⟩ : ∃ V, a.V * b.V = V := ⟨_, rfl⟩
      rw [hV] at Hto HM
      clear hV
      go_wp2_with fail
      refine HM.out.mono ?_
      rintro e w2 ⟨A2, m2, c2, ts, rfl, hm2, hl2, hb2, hv2, hB2⟩
      have HQ2 := Lib.hid (HQ.out.below hB2)
      have HTd := Lib.hid (told_any (!(ga == gb)) A2 m2 c2 ts (a.e + b.e) w2 hl2 (by omega) hb2)
      rw [hv2, Hto.out] at HTd
      clear x0 x1 x2 xf y0 y1 y2 yf HM HQ hl2 hb2 hv2 hB2 Hto
      obtain ⟨⟨k1, k2, _, _, _, _⟩, k3⟩ := HQ2.out
      have x0 := k1.c0
      have x2 := k1.c2
      have y0 := k2.c0
      have y2 := k2.c2
      clear k1 k2 k3
      go_wp2_with fail
      refine HTd.out.mono ?_
      rintro e w9 ⟨g9, A9, m9, c9, rs, E9, r9, rfl, hm9, hl9, hb9, his9, hB9⟩
      have HQ9 := Lib.hid (HQ2.out.below hB9)
      have z0 := HQ9.out.2.c0
      have z1 := HQ9.out.2.c1
      have z2 := HQ9.out.2.c2
      have zf := HQ9.out.2.fz
      have Hfin : Hid (Told w o (n + m) (.returned (.tuple #[.agg #[.bool g9, .slice A9 m9 c9, .int .i64 E9], .int .i64 r9])) (World.put w9 (w.heap.size + 1 + 1) g9 A9 m9 c9 E9)) :=
        ⟨g9, A9, m9, c9, rs, E9, r9, rfl, by omega, HQ9.out.2.lim hl9 _ _ _ _ _, hb9, his9, below_put HQ9.out.1.2.2.2.2.2 (by omega) _ _ _ _ _⟩
      clear HTd HQ9 HQ2 hl9 hb9 his9 hB9 x0 x2 y0 y2
      go_wp2
      exact bodyPost_ret (v := .tuple #[.agg #[.bool g9, .slice A9 m9 c9, .int .i64 E9], .int .i64 r9]) (by simp [results, Tryd.results9, go_sem, z0, z1, z2]) rfl Hfin.out

set_option maxHeartbeats 4000000 in
theorem minus_any (b : Dy) (g : Bool) (A : Option Addr) (n c : Nat) (xs : List Nat) (e1 : Int) (w : World) (hA : Lim w A n c xs) (hn : n ≤ 1000000) (hT : Tab w) (ho : Hid (mk (!g) (val xs) e1 = some b)) :
    Calls Tryd.prog 8 #[.agg #[.bool g, .slice A n c, .int .i64 e1]] w (Tells1 w b.neg b.V n b.e) := by
  have a3 : Below w.heap.size w ((w.alloc (.cells #[.bool g, .slice A n c, .int .i64 e1] 28)).alloc (.cells #[.bool false, .slice none 0 0, .int .i64 0] 28)) := ((Below.refl _ _).alloc (Nat.le_refl _) _).alloc (by simp) _
  have H1 := Lib.hid (make_any (!g) A n c xs e1 _ (hA.below a3) (by omega) (hT.below a3))
  have b2 := Bd.new (w.alloc (.cells #[.bool g, .slice A n c, .int .i64 e1] 28)) 28 false none 0 0 0
  rw [World.size_alloc] at b2
  have Hb2 := Lib.hid b2
  have HS := Lib.hid a3
  rw [ho.out] at H1
  clear hA a3 b2 hT ho
  go_enter Tryd.func8, Tryd.ntmps8
  go_wp2_with fail
  refine H1.out.mono ?_
  rintro e w1 ⟨g1, A1, m1, c1, zs, E1, r1, rfl, hm1, hl1, hb1, ⟨rfl, rfl, hz, rfl⟩, hB1⟩
  have k2 := Hb2.out.below hB1
  have Hfin : Hid (Tells1 w b.neg b.V n b.e (.returned (.agg #[.bool b.neg, .slice A1 m1 c1, .int .i64 b.e])) (World.put (w1.alloc (.cells #[.bool b.neg, .slice A1 m1 c1, .int .i64 b.e] 28)) (w.heap.size + 1) b.neg A1 m1 c1 b.e)) :=
    ⟨A1, m1, c1, zs, rfl, hm1, (k2.alloc _).lim (hl1.alloc _) _ _ _ _ _, hb1, hz, below_put ((HS.out.trans (hB1.mono HS.out.size)).alloc (HS.out.trans (hB1.mono HS.out.size)).size _) (Nat.le_succ _) _ _ _ _ _⟩
  have y0 := fun o => (k2.alloc o).c0
  have y1 := fun o => (k2.alloc o).c1
  have y2 := fun o => (k2.alloc o).c2
  have yf := fun o => (k2.alloc o).fz
  clear k2 hB1 hl1 hb1 H1 Hb2 HS hz
  go_wp2
  exact bodyPost_ret (v := .agg #[.bool b.neg, .slice A1 m1 c1, .int .i64 b.e]) (by simp [results, Tryd.results8, go_sem, y0, y1, y2]) rfl Hfin.out
end Go.Proofs.YtffkddnjgbgfpaaDoor
