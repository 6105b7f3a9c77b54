/- The walks of dyad.down and apart. -/
import Derived.Test.YtgacafdkhailmaaDoorDyBoth
import Derived.Test.YtgacafdkhailmaaDoorWSub
namespace Go.Proofs.YtgacafdkhailmaaDoor
open Go.RowKit

/-- A dyad alone. -/
def Tells1 (w : World) (g : Bool) (V L : Nat) (E : Int) (e : Ending) (w' : World) : Prop :=
  ∃ A m c zs, e = .returned (.agg #[.bool g, .slice A m c, .int .i64 E]) ∧ m ≤ L ∧ Lim w' A m c zs ∧ Bare zs ∧ val zs = V ∧ Below w.heap.size w w'

set_option maxHeartbeats 2000000 in
theorem down_any (g : Bool) (A : Option Addr) (n c : Nat) (xs : List Nat) (e1 lo : Int) (q : Nat) (w : World) (hA : Lim w A n c xs) (hn : n ≤ 1000000) (hq : e1 - lo = (q : Int)) (hfit : blen (val xs) + q ≤ 65536) :
    Calls Tryd.prog 51 #[.agg #[.bool g, .slice A n c, .int .i64 e1], .int .i64 lo] w (Tells1 w g (val xs * 2 ^ q) (q + n + 1) lo) := by
  have a3 : Below w.heap.size w ((w.alloc (.cells #[.bool g, .slice A n c, .int .i64 e1] 28)).alloc (.cells #[.bool false, .slice none 0 0, .int .i64 0] 28)) := ((Below.refl _ _).alloc (Nat.le_refl _) _).alloc (by simp) _
  have H1 := Lib.hid (shl_all A n c xs _ (hA.below a3) (by omega) q (Or.inl hfit))
  have b1 := (Bd.new w 28 g A n c e1).alloc (.cells #[.bool false, .slice none 0 0, .int .i64 0] 28)
  have b2 := Bd.new (w.alloc (.cells #[.bool g, .slice A n c, .int .i64 e1] 28)) 28 false none 0 0 0
  rw [World.size_alloc] at b2
  have Hb1 := Lib.hid b1
  have Hb2 := Lib.hid b2
  have HS := Lib.hid a3
  have hq9 : q ≤ 65536 := by omega
  clear hA a3 b1 b2 hfit
  go_enter Tryd.func51, Tryd.ntmps51
  go_wp2_with fail
  refine H1.out.mono ?_
  rintro e w1 ⟨A1, m1, c1, zs, rfl, hm1, hl1, hb1, hv1, hB1⟩
  have k1 := Hb1.out.below hB1
  have k2 := Hb2.out.below hB1
  have Hfin : Hid (Tells1 w g (val xs * 2 ^ q) (q + n + 1) lo (.returned (.agg #[.bool g, .slice A1 m1 c1, .int .i64 lo])) (World.put w1 (w.heap.size + 1) g A1 m1 c1 lo)) :=
    ⟨A1, m1, c1, zs, rfl, hm1, k2.lim hl1 _ _ _ _ _, hb1, hv1, below_put (HS.out.trans (hB1.mono HS.out.size)) (Nat.le_succ _) _ _ _ _ _⟩
  have x0 := k1.c0
  have y0 := k2.c0
  have y1 := k2.c1
  have y2 := k2.c2
  have yf := k2.fz
  clear k1 k2 hB1 hl1 hb1 hv1 H1 Hb1 Hb2 HS
  go_wp2
  exact bodyPost_ret (v := .agg #[.bool g, .slice A1 m1 c1, .int .i64 lo]) (by simp [results, Tryd.results51, go_sem, y0, y1, y2]) rfl Hfin.out

theorem cmp_neg {x y : Nat} : (x < y ∧ cmpZ x y = -1) ∨ (y ≤ x ∧ 0 ≤ cmpZ x y) := by
  rcases Nat.lt_or_ge x y with h | h
  · exact Or.inl ⟨h, cmpZ_lt h⟩
  · exact Or.inr ⟨h, cmpZ_nonneg h⟩

set_option maxHeartbeats 4000000 in
theorem apart_any (g : Bool) (A : Option Addr) (n c : Nat) (xs : List Nat) (k : Bool) (B : Option Addr) (m d : Nat) (ys : List Nat) (lo : Int) (w : World) (hA : Lim w A n c xs) (hB : Lim w B m d ys) (hn : n ≤ 1000000) (hm : m ≤ 1000000) (hT : Tab w) (o : Option Dy) (ho : Hid ((if val xs < val ys then mk k (val ys - val xs) lo else mk g (val xs - val ys) lo) = o)) :
    Calls Tryd.prog 53 #[.agg #[.bool g, .slice A n c, .int .i64 lo], .agg #[.bool k, .slice B m d, .int .i64 lo]] w
      (Told w o (max n m)) := by
  have h0 := Held2.start w g A n c xs lo k B m d ys lo hA hB hT
  have h4 := h0.below (below1 _ (.cells #[.bool false, .slice none 0 0, .int .i64 0] 28))
  have b3 := Bd.new ((w.alloc (.cells #[.bool g, .slice A n c, .int .i64 lo] 28)).alloc (.cells #[.bool k, .slice B m d, .int .i64 lo] 28)) 28 false none 0 0 0
  rw [World.size_alloc, World.size_alloc] at b3
  obtain ⟨f, hf⟩ : ∃ f, cmpZ (val xs) (val ys) = f := ⟨_, rfl⟩
  have hcase := cmp_neg (x := val xs) (y := val ys)
  rw [hf] at hcase
  have HC := Lib.hid (cmp_b f A n c xs B m d ys _ h4.2.2.1 h4.2.2.2.1 (by omega) (by omega) hf)
  have H4 := Lib.hid h4
  have Hb3 := Lib.hid b3
  clear hA hB hT h0 h4 b3 hf
  rcases hcase with ⟨hlt, rfl⟩ | ⟨hge, hf0⟩
  · have Hif : Hid (mk k (val ys - val xs) lo = o) := by rw [← ho.out, if_pos hlt]; rfl
    clear ho
    go_enter Tryd.func53, Tryd.ntmps53
    go_wp2_with fail
    refine HC.out.mono ?_
    rintro e w1 ⟨rfl, hB1⟩
    obtain ⟨k1, k2, l1, l2, t1, s1⟩ := H4.out.below hB1
    have k3 := Hb3.out.below hB1
    have x0 := k1.c0
    have x1 := k1.c1
    have x2 := k1.c2
    have xf := k1.fz
    have y0 := k2.c0
    have y1 := k2.c1
    have y2 := k2.c2
    have yf := k2.fz
    have p1 := k1.put k B m d lo
    have p2 := k2.other (b' := w.heap.size) (by omega) k B m d lo
    have p3 := k3.other (b' := w.heap.size) (by omega) k B m d lo
    have q1 := p1.other (b' := w.heap.size + 1) (by omega) g A n c lo
    have q2 := p2.put g A n c lo
    have q3 := p3.other (b' := w.heap.size + 1) (by omega) g A n c lo
    have m1 := p2.lim (k1.lim l1 k B m d lo) g A n c lo
    have m2 := p2.lim (k1.lim l2 k B m d lo) g A n c lo
    have t2 := p2.tab (k1.tab t1 k B m d lo) g A n c lo
    have s2 := below_put (below_put s1 (b := w.heap.size) (Nat.le_refl _) k B m d lo) (b := w.heap.size + 1) (Nat.le_succ _) g A n c lo
    have HQ := Lib.hid (And.intro q1 (And.intro q3 (And.intro t2 s2)))
    have HD := Lib.hid (sub_any B m d ys A n c xs _ m2 m1 (by omega) (by omega) (Nat.le_of_lt hlt))
    clear k1 k2 k3 l1 l2 t1 s1 p1 p2 p3 q1 q2 q3 m1 m2 t2 s2 hB1 HC H4 Hb3 hlt
    go_wp2_with fail
    refine HD.out.mono ?_
    rintro e w2 ⟨A2, n2, c2, us, rfl, hm2, hl2, hb2, hv2, hB2⟩
    have k1 := HQ.out.1.below hB2
    have k3 := HQ.out.2.1.below hB2
    have HE := Lib.hid (make_any k A2 n2 c2 us lo w2 hl2 (by omega) (HQ.out.2.2.1.below hB2))
    rw [hv2, Hif.out] at HE
    have Hk3 := Lib.hid k3
    have HS2 := Lib.hid (HQ.out.2.2.2.trans (hB2.mono HQ.out.2.2.2.size))
    clear x0 x1 x2 xf y0 y1 y2 yf HQ HD hl2 hb2 hv2 hB2 k3
    have x0 := k1.c0
    have x2 := k1.c2
    clear k1
    go_wp2_with fail
    refine HE.out.mono ?_
    rintro e w3 ⟨g3, A3, m3, c3, zs, E, r, rfl, hm3, hl3, hb3, his, hB3⟩
    have k3 := Hk3.out.below hB3
    have Hfin : Hid (Told w o (max n m) (.returned (.tuple #[.agg #[.bool g3, .slice A3 m3 c3, .int .i64 E], .int .i64 r])) (World.put w3 (w.heap.size + 1 + 1) g3 A3 m3 c3 E)) :=
      ⟨g3, A3, m3, c3, zs, E, r, rfl, by omega, k3.lim hl3 _ _ _ _ _, hb3, his, below_put (HS2.out.trans (hB3.mono HS2.out.size)) (by omega) _ _ _ _ _⟩
    clear x0 x2
    have y0 := k3.c0
    have y1 := k3.c1
    have y2 := k3.c2
    have yf := k3.fz
    clear k3 Hk3 HS2 HE hl3 hb3 his hB3 Hif
    go_wp2
    exact bodyPost_ret (v := .tuple #[.agg #[.bool g3, .slice A3 m3 c3, .int .i64 E], .int .i64 r]) (by simp [results, Tryd.results53, go_sem, y0, y1, y2]) rfl Hfin.out
  · have Hif : Hid (mk g (val xs - val ys) lo = o) := by rw [← ho.out, if_neg (by omega)]; rfl
    have hf1 : decide (f < 0) = false := decide_eq_false (by omega)
    clear ho
    go_enter Tryd.func53, Tryd.ntmps53
    go_wp2_with fail
    refine HC.out.mono ?_
    rintro e w1 ⟨rfl, hB1⟩
    obtain ⟨k1, k2, l1, l2, t1, s1⟩ := H4.out.below hB1
    have k3 := Hb3.out.below hB1
    have x0 := k1.c0
    have x1 := k1.c1
    have x2 := k1.c2
    have y0 := k2.c0
    have y1 := k2.c1
    have y2 := k2.c2
    have HQ := Lib.hid (And.intro k1 (And.intro k3 (And.intro t1 s1)))
    have HD := Lib.hid (sub_any A n c xs B m d ys _ l1 l2 (by omega) (by omega) hge)
    clear k1 k2 k3 l1 l2 t1 s1 hB1 HC H4 Hb3 hge
    go_wp2_with fail
    refine HD.out.mono ?_
    rintro e w2 ⟨A2, n2, c2, us, rfl, hm2, hl2, hb2, hv2, hB2⟩
    have k1 := HQ.out.1.below hB2
    have k3 := HQ.out.2.1.below hB2
    have HE := Lib.hid (make_any g A2 n2 c2 us lo w2 hl2 (by omega) (HQ.out.2.2.1.below hB2))
    rw [hv2, Hif.out] at HE
    have Hk3 := Lib.hid k3
    have HS2 := Lib.hid (HQ.out.2.2.2.trans (hB2.mono HQ.out.2.2.2.size))
    clear x0 x1 x2 y0 y1 y2 HQ HD hl2 hb2 hv2 hB2 k3
    have x0 := k1.c0
    have x2 := k1.c2
    clear k1
    go_wp2_with fail
    refine HE.out.mono ?_
    rintro e w3 ⟨g3, A3, m3, c3, zs, E, r, rfl, hm3, hl3, hb3, his, hB3⟩
    have k3 := Hk3.out.below hB3
    have Hfin : Hid (Told w o (max n m) (.returned (.tuple #[.agg #[.bool g3, .slice A3 m3 c3, .int .i64 E], .int .i64 r])) (World.put w3 (w.heap.size + 1 + 1) g3 A3 m3 c3 E)) :=
      ⟨g3, A3, m3, c3, zs, E, r, rfl, by omega, k3.lim hl3 _ _ _ _ _, hb3, his, below_put (HS2.out.trans (hB3.mono HS2.out.size)) (by omega) _ _ _ _ _⟩
    clear x0 x2
    have y0 := k3.c0
    have y1 := k3.c1
    have y2 := k3.c2
    have yf := k3.fz
    clear k3 Hk3 HS2 HE hl3 hb3 his hB3 Hif
    go_wp2
    exact bodyPost_ret (v := .tuple #[.agg #[.bool g3, .slice A3 m3 c3, .int .i64 E], .int .i64 r]) (by simp [results, Tryd.results53, go_sem, y0, y1, y2]) rfl Hfin.out
end Go.Proofs.YtgacafdkhailmaaDoor
