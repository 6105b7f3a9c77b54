/- The walk of dyad.both. -/
import Derived.Test.YtgacafdkhailmaaDoorDyOrd
namespace Go.Proofs.YtgacafdkhailmaaDoor
open Go.RowKit

/-- Two dyads and an error. -/
def Told2 (w : World) (o1 o2 : Option Dy) (L1 L2 : Nat) (e : Ending) (w' : World) : Prop :=
  match o1, o2 with
  | some a, some b => ∃ A m c zs B p q us, e = .returned (.tuple #[.agg #[.bool a.neg, .slice A m c, .int .i64 a.e], .agg #[.bool b.neg, .slice B p q, .int .i64 b.e], .int .i64 0]) ∧ m ≤ L1 ∧ p ≤ L2 ∧ Lim w' A m c zs ∧ Lim w' B p q us ∧ Bare zs ∧ Bare us ∧ val zs = a.V ∧ val us = b.V ∧ Below w.heap.size w w'
  | _, _ => e = .returned (.tuple #[.agg #[.bool false, .slice none 0 0, .int .i64 0], .agg #[.bool false, .slice none 0 0, .int .i64 0], .int .i64 2]) ∧ Below w.heap.size w w'

set_option maxHeartbeats 4000000 in
theorem both_any (g : Bool) (A : Option Addr) (n c : Nat) (xs : List Nat) (e1 : Int) (k : Bool) (B : Option Addr) (m d : Nat) (ys : List Nat) (e2 : Int) (w : World) (hA : Lim w A n c xs) (hB : Lim w B m d ys) (hn : n ≤ 4294967296) (hm : m ≤ 4294967296) (hT : Tab w) :
    Calls Tryd.prog 50 #[.agg #[.bool g, .slice A n c, .int .i64 e1], .agg #[.bool k, .slice B m d, .int .i64 e2]] w (Told2 w (mk g (val xs) e1) (mk k (val ys) e2) n m) := by
  obtain ⟨W4, hW4⟩ : ∃ W4, (((w.alloc (.cells #[.bool g, .slice A n c, .int .i64 e1] 28)).alloc (.cells #[.bool k, .slice B m d, .int .i64 e2] 28)).alloc (.cells #[.bool false, .slice none 0 0, .int .i64 0] 28)).alloc (.cells #[.bool false, .slice none 0 0, .int .i64 0] 28) = W4 := ⟨_, rfl⟩
  have h0 := Held2.start w g A n c xs e1 k B m d ys e2 hA hB hT
  have b3 := (Bd.new ((w.alloc (.cells #[.bool g, .slice A n c, .int .i64 e1] 28)).alloc (.cells #[.bool k, .slice B m d, .int .i64 e2] 28)) 28 false none 0 0 0).alloc (.cells #[.bool false, .slice none 0 0, .int .i64 0] 28)
  have b4 := Bd.new (((w.alloc (.cells #[.bool g, .slice A n c, .int .i64 e1] 28)).alloc (.cells #[.bool k, .slice B m d, .int .i64 e2] 28)).alloc (.cells #[.bool false, .slice none 0 0, .int .i64 0] 28)) 28 false none 0 0 0
  rw [World.size_alloc, World.size_alloc] at b3
  rw [World.size_alloc, World.size_alloc, World.size_alloc] at b4
  have h4 : Held2 w w.heap.size g A n c xs e1 (w.heap.size + 1) k B m d ys e2 W4 := by rw [← hW4]; exact (h0.below (below1 _ _)).below (below1 _ _)
  rw [hW4] at b3 b4
  have H4 := Lib.hid h4
  have Hb3 : Hid (Bd W4 (w.heap.size + 1 + 1) 28 false none 0 0 0) := b3
  have Hb4 : Hid (Bd W4 (w.heap.size + 1 + 1 + 1) 28 false none 0 0 0) := b4
  have HC1 := Lib.hid (dbare_any g A n c xs e1 W4 h4.2.2.1 hn h4.2.2.2.2.1)
  have HW := Lib.hid hW4
  clear hA hB hT h0 h4 b3 b4 hW4
  go_enter Tryd.func50, Tryd.ntmps50
  go_wp2_with fail
  rw [HW.out]
  refine HC1.out.mono ?_
  rintro e w1 ⟨g1, A1, m1, c1, zs, E1, r1, rfl, hm1, hl1, hb1, his1, hB1⟩
  have H5 := Lib.hid (H4.out.below hB1)
  have Hb5 := Lib.hid (Hb3.out.below hB1)
  have Hb6 := Lib.hid (Hb4.out.below hB1)
  clear HC1 H4 Hb3 Hb4 HW hB1
  cases ho1 : mk g (val xs) e1 with
  | none =>
    rw [ho1] at his1
    obtain ⟨rfl, rfl, hz, rfl⟩ := his1
    have x0 := fun o => (Hb5.out.alloc o).c0
    have x1 := fun o => (Hb5.out.alloc o).c1
    have x2 := fun o => (Hb5.out.alloc o).c2
    have xf := fun o => (Hb5.out.alloc o).fz
    have y0 := fun o => (Hb6.out.alloc o).c0
    have y1 := fun o => (Hb6.out.alloc o).c1
    have y2 := fun o => (Hb6.out.alloc o).c2
    have yf := fun o => (Hb6.out.alloc o).fz
    have Hfin : Hid (Told2 w (mk g (val xs) e1) (mk k (val ys) e2) n m (.returned (.tuple #[.agg #[.bool false, .slice none 0 0, .int .i64 0], .agg #[.bool false, .slice none 0 0, .int .i64 0], .int .i64 2])) (World.put (World.put (w1.alloc (.cells #[.bool false, .slice A1 m1 c1, .int .i64 0] 28)) (w.heap.size + 1 + 1) false none 0 0 0) (w.heap.size + 1 + 1 + 1) false none 0 0 0)) := by
      rw [ho1]
      refine ⟨rfl, below_put (below_put (H5.out.2.2.2.2.2.alloc H5.out.2.2.2.2.2.size _) (by omega) _ _ _ _ _) (by omega) _ _ _ _ _⟩
    clear hl1 hb1 H5 Hb5 Hb6 hz ho1
    go_wp2
    exact bodyPost_ret (v := .tuple #[.agg #[.bool false, .slice none 0 0, .int .i64 0], .agg #[.bool false, .slice none 0 0, .int .i64 0], .int .i64 2]) (by simp [results, Tryd.results50, go_sem, x0, x1, x2, y0, y1, y2]) rfl Hfin.out
  | some a =>
    rw [ho1] at his1
    obtain ⟨rfl, rfl, hz1, rfl⟩ := his1
    have hs2 := Hb5.out.lt
    have hs3 := Hb6.out.lt
    have Hb7 := Lib.hid (Bd.new w1 28 a.neg A1 m1 c1 a.e)
    have HL1 := Lib.hid (hl1.alloc (.cells #[.bool a.neg, .slice A1 m1 c1, .int .i64 a.e] 28))
    have Hz1 : Hid (Bare zs ∧ val zs = a.V) := ⟨hb1, hz1⟩
    replace H5 := Lib.hid (H5.out.below (below1 _ (.cells #[.bool a.neg, .slice A1 m1 c1, .int .i64 a.e] 28)))
    replace Hb5 := Lib.hid (Hb5.out.alloc (.cells #[.bool a.neg, .slice A1 m1 c1, .int .i64 a.e] 28))
    replace Hb6 := Lib.hid (Hb6.out.alloc (.cells #[.bool a.neg, .slice A1 m1 c1, .int .i64 a.e] 28))
    have x0 := H5.out.2.1.c0
    have x1 := H5.out.2.1.c1
    have x2 := H5.out.2.1.c2
    have Ho1 := Lib.hid ho1
    clear hl1 hb1 hz1 ho1
    go_wp2_with fail
    refine (dbare_any k B m d ys e2 _ H5.out.2.2.2.1 hm H5.out.2.2.2.2.1).mono ?_
    rintro e w2 ⟨g2, A2, m2, c2, us, E2, r2, rfl, hm2, hl2, hb2, his2, hB2⟩
    replace H5 := Lib.hid (H5.out.below hB2)
    replace Hb5 := Lib.hid (Hb5.out.below hB2)
    replace Hb6 := Lib.hid (Hb6.out.below hB2)
    replace Hb7 := Lib.hid (Hb7.out.below hB2)
    replace HL1 := Lib.hid (HL1.out.below hB2)
    clear hB2 x0 x1 x2
    have x0 := fun o => (Hb5.out.alloc o).c0
    have x1 := fun o => (Hb5.out.alloc o).c1
    have x2 := fun o => (Hb5.out.alloc o).c2
    have xf := fun o => (Hb5.out.alloc o).fz
    have y0 := fun o => (Hb6.out.alloc o).c0
    have y1 := fun o => (Hb6.out.alloc o).c1
    have y2 := fun o => (Hb6.out.alloc o).c2
    have yf := fun o => (Hb6.out.alloc o).fz
    cases ho2 : mk k (val ys) e2 with
    | none =>
      rw [ho2] at his2
      obtain ⟨rfl, rfl, hz2, rfl⟩ := his2
      have Hfin : Hid (Told2 w (mk g (val xs) e1) (mk k (val ys) e2) n m (.returned (.tuple #[.agg #[.bool false, .slice none 0 0, .int .i64 0], .agg #[.bool false, .slice none 0 0, .int .i64 0], .int .i64 2])) (World.put (World.put (w2.alloc (.cells #[.bool false, .slice A2 m2 c2, .int .i64 0] 28)) (w.heap.size + 1 + 1) false none 0 0 0) (w.heap.size + 1 + 1 + 1) false none 0 0 0)) := by
        rw [Ho1.out, ho2]
        refine ⟨rfl, below_put (below_put (H5.out.2.2.2.2.2.alloc H5.out.2.2.2.2.2.size _) (by omega) _ _ _ _ _) (by omega) _ _ _ _ _⟩
      clear hl2 hb2 H5 Hb5 Hb6 hz2 ho2 Hb7 HL1 Hz1
      go_wp2
      exact bodyPost_ret (v := .tuple #[.agg #[.bool false, .slice none 0 0, .int .i64 0], .agg #[.bool false, .slice none 0 0, .int .i64 0], .int .i64 2]) (by simp [results, Tryd.results50, go_sem, x0, x1, x2, y0, y1, y2]) rfl Hfin.out
    | some b =>
      rw [ho2] at his2
      obtain ⟨rfl, rfl, hz2, rfl⟩ := his2
      have k7 := Hb7.out.alloc (.cells #[.bool b.neg, .slice A2 m2 c2, .int .i64 b.e] 28)
      have k8 := Bd.new w2 28 b.neg A2 m2 c2 b.e
      have k5 := Hb5.out.alloc (.cells #[.bool b.neg, .slice A2 m2 c2, .int .i64 b.e] 28)
      have k6 := Hb6.out.alloc (.cells #[.bool b.neg, .slice A2 m2 c2, .int .i64 b.e] 28)
      have hlt := Hb7.out.lt
      have f7 := k7.other (b' := w.heap.size + 1 + 1) (by omega) a.neg A1 m1 c1 a.e
      have f8 := k8.other (b' := w.heap.size + 1 + 1) (by omega) a.neg A1 m1 c1 a.e
      have f6 := k6.other (b' := w.heap.size + 1 + 1) (by omega) a.neg A1 m1 c1 a.e
      have g7 := f7.other (b' := w.heap.size + 1 + 1 + 1) (by omega) b.neg A2 m2 c2 b.e
      have g8 := f8.other (b' := w.heap.size + 1 + 1 + 1) (by omega) b.neg A2 m2 c2 b.e
      have Hfin : Hid (Told2 w (mk g (val xs) e1) (mk k (val ys) e2) n m (.returned (.tuple #[.agg #[.bool a.neg, .slice A1 m1 c1, .int .i64 a.e], .agg #[.bool b.neg, .slice A2 m2 c2, .int .i64 b.e], .int .i64 0])) (World.put (World.put (w2.alloc (.cells #[.bool b.neg, .slice A2 m2 c2, .int .i64 b.e] 28)) (w.heap.size + 1 + 1) a.neg A1 m1 c1 a.e) (w.heap.size + 1 + 1 + 1) b.neg A2 m2 c2 b.e).drew) := by
        rw [Ho1.out, ho2]
        exact ⟨A1, m1, c1, zs, A2, m2, c2, us, rfl, hm1, hm2, (f6.lim (k5.lim (HL1.out.alloc _) _ _ _ _ _) _ _ _ _ _).drew, (f6.lim (k5.lim (hl2.alloc _) _ _ _ _ _) _ _ _ _ _).drew, Hz1.out.1, hb2, Hz1.out.2, hz2, (below_put (below_put (H5.out.2.2.2.2.2.alloc H5.out.2.2.2.2.2.size _) (by omega) _ _ _ _ _) (by omega) _ _ _ _ _).drew⟩
      have K0 := Lib.hid (k7.drew.six k8.drew)
      have K1 := Lib.hid (f7.drew.six f8.drew)
      have K2 := Lib.hid (g7.drew.six g8.drew)
      clear hl2 hb2 H5 Hb5 Hb6 hz2 ho2 Hb7 HL1 Hz1 Ho1 k5 k6 k7 k8 f6 f7 f8 g7 g8
      go_wp2_with fail
      go_region_held3 (fun w' => w'.cell? ⟨w1.heap.size, 0, none⟩ = some (.bool a.neg) ∧ w'.cell? ⟨w1.heap.size, 1, none⟩ = some (.slice A1 m1 c1) ∧ w'.cell? ⟨w1.heap.size, 2, none⟩ = some (.int .i64 a.e) ∧ w'.cell? ⟨w2.heap.size, 0, none⟩ = some (.bool b.neg) ∧ w'.cell? ⟨w2.heap.size, 1, none⟩ = some (.slice A2 m2 c2) ∧ w'.cell? ⟨w2.heap.size, 2, none⟩ = some (.int .i64 b.e))
        (first | with_reducible exact K0.out | with_reducible exact K1.out | with_reducible exact K2.out) (fail)
      go_wp2_with fail
      (exact bodyPost_ret (v := .tuple #[.agg #[.bool a.neg, .slice A1 m1 c1, .int .i64 a.e], .agg #[.bool b.neg, .slice A2 m2 c2, .int .i64 b.e], .int .i64 0]) (by simp [results, Tryd.results50, go_sem, x0, x1, x2, y0, y1, y2]) rfl Hfin.out)
end Go.Proofs.YtgacafdkhailmaaDoor
