/- The walk of dyad.Add. -/
import Derived.Test.YtgacafdkhailmaaDoorDyDown
import Derived.Test.YtgacafdkhailmaaDoorWAdd
namespace Go.Proofs.YtgacafdkhailmaaDoor
open Go.RowKit

/-- While a sum is made: both dyads in their blocks, the result's block. -/
def Held3 (w0 : World) (b1 : Nat) (g : Bool) (A : Option Addr) (n c : Nat) (xs : List Nat) (e1 : Int) (b2 : Nat) (k : Bool) (B : Option Addr) (m d : Nat) (ys : List Nat) (e2 : Int) (b3 : Nat) (w : World) : Prop :=
  Held2 w0 b1 g A n c xs e1 b2 k B m d ys e2 w ∧ Bd w b3 28 false none 0 0 0
theorem Held3.below {w0 : World} {b1 : Nat} {g : Bool} {A : Option Addr} {n c : Nat} {xs : List Nat} {e1 : Int} {b2 : Nat} {k : Bool} {B : Option Addr} {m d : Nat} {ys : List Nat} {e2 : Int} {b3 : Nat} {w w' : World}
    (h : Held3 w0 b1 g A n c xs e1 b2 k B m d ys e2 b3 w) (hb : Below w.heap.size w w') : Held3 w0 b1 g A n c xs e1 b2 k B m d ys e2 b3 w' := ⟨h.1.below hb, h.2.below hb⟩
/-- Both blocks turned. -/
theorem Held3.turn {w0 : World} {b1 : Nat} {g : Bool} {A : Option Addr} {n c : Nat} {xs : List Nat} {e1 : Int} {b2 : Nat} {k : Bool} {B : Option Addr} {m d : Nat} {ys : List Nat} {e2 : Int} {b3 : Nat} {w : World}
    (h : Held3 w0 b1 g A n c xs e1 b2 k B m d ys e2 b3 w) (h1 : w0.heap.size ≤ b1) (h12 : b1 < b2) (h23 : b2 < b3)
    {g' : Bool} {A' : Option Addr} {n' c' : Nat} {xs' : List Nat} {e1' : Int} {k' : Bool} {B' : Option Addr} {m' d' : Nat} {ys' : List Nat} {e2' : Int} (hA : Lim w A' n' c' xs') (hB : Lim w B' m' d' ys') :
    Held3 w0 b1 g' A' n' c' xs' e1' b2 k' B' m' d' ys' e2' b3 (World.put (World.put w b1 g' A' n' c' e1') b2 k' B' m' d' e2') := by
  obtain ⟨⟨k1, k2, l1, l2, t1, s1⟩, k3⟩ := h
  have p2 := k2.other (b' := b1) (by omega) g' A' n' c' e1'
  exact ⟨⟨(k1.put g' A' n' c' e1').other (by omega) _ _ _ _ _, p2.put _ _ _ _ _, p2.lim (k1.lim hA _ _ _ _ _) _ _ _ _ _, p2.lim (k1.lim hB _ _ _ _ _) _ _ _ _ _, p2.tab (k1.tab t1 _ _ _ _ _) _ _ _ _ _, below_put (below_put s1 h1 _ _ _ _ _) (by omega) _ _ _ _ _⟩, (k3.other (by omega) _ _ _ _ _).other (by omega) _ _ _ _ _⟩
theorem Held3.start (w : World) (g : Bool) (A : Option Addr) (n c : Nat) (xs : List Nat) (e1 : Int) (k : Bool) (B : Option Addr) (m d : Nat) (ys : List Nat) (e2 : Int) (hA : Lim w A n c xs) (hB : Lim w B m d ys) (hT : Tab w) :
    Held3 w w.heap.size g A n c xs e1 (w.heap.size + 1) k B m d ys e2 (w.heap.size + 1 + 1) (((w.alloc (.cells #[.bool g, .slice A n c, .int .i64 e1] 28)).alloc (.cells #[.bool k, .slice B m d, .int .i64 e2] 28)).alloc (.cells #[.bool false, .slice none 0 0, .int .i64 0] 28)) := by
  have b3 := Bd.new ((w.alloc (.cells #[.bool g, .slice A n c, .int .i64 e1] 28)).alloc (.cells #[.bool k, .slice B m d, .int .i64 e2] 28)) 28 false none 0 0 0
  rw [World.size_alloc, World.size_alloc] at b3
  exact ⟨(Held2.start w g A n c xs e1 k B m d ys e2 hA hB hT).below (below1 _ _), b3⟩

/-- The sum of two that aren't 0 and lie near. -/
theorem addB_near {a b : Dy} {lo : Int} {x y : Nat} (h1 : a.V ≠ 0) (h2 : b.V ≠ 0) (hlo : min a.e b.e = lo) (hx : a.V * 2 ^ (a.e - lo).toNat = x) (hy : b.V * 2 ^ (b.e - lo).toNat = y) (h : max ((blen a.V : Int) - 1 + a.e) ((blen b.V : Int) - 1 + b.e) - lo ≤ 65535) :
    addB a b = if a.neg = b.neg then mk a.neg (x + y) lo else if x < y then mk b.neg (y - x) lo else mk a.neg (x - y) lo := by
  unfold addB
  rw [if_neg h1, if_neg h2, hlo, if_neg (by omega), hx, hy]
theorem addB_far {a b : Dy} {lo : Int} (h1 : a.V ≠ 0) (h2 : b.V ≠ 0) (hlo : min a.e b.e = lo) (h : 65535 < max ((blen a.V : Int) - 1 + a.e) ((blen b.V : Int) - 1 + b.e) - lo) : addB a b = none := by
  unfold addB
  rw [if_neg h1, if_neg h2, hlo, if_pos h]

theorem Told2.part {w : World} {o1 o2 : Option Dy} {L1 L2 : Nat} {e : Ending} {w' : World} (h : Told2 w o1 o2 L1 L2 e w') :
    (∃ a b, o1 = some a ∧ o2 = some b) ∨ ((o1 = none ∨ o2 = none) ∧ e = .returned (.tuple #[.agg #[.bool false, .slice none 0 0, .int .i64 0], .agg #[.bool false, .slice none 0 0, .int .i64 0], .int .i64 2]) ∧ Below w.heap.size w w') := by
  cases o1 with
  | none => exact Or.inr ⟨Or.inl rfl, by cases o2 <;> exact h⟩
  | some a => cases o2 with
    | none => exact Or.inr ⟨Or.inr rfl, h⟩
    | some b => exact Or.inl ⟨a, b, rfl, rfl⟩
theorem addO_none {o1 o2 : Option Dy} (h : o1 = none ∨ o2 = none) : addO o1 o2 = none := by
  rcases h with rfl | rfl
  · cases o2 <;> rfl
  · cases o1 <;> rfl
theorem mulO_none {o1 o2 : Option Dy} (h : o1 = none ∨ o2 = none) : mulO o1 o2 = none := by
  rcases h with rfl | rfl
  · cases o2 <;> rfl
  · cases o1 <;> rfl
theorem is_zero : Is none false (val []) 0 2 := ⟨rfl, rfl, rfl, rfl⟩

set_option maxHeartbeats 4000000 in
theorem dadd_any (o : Option Dy) (g : Bool) (A : Option Addr) (n c : Nat) (xs : List Nat) (e1 : Int) (k : Bool) (B : Option Addr) (m d : Nat) (ys : List Nat) (e2 : Int) (w : World) (hA : Lim w A n c xs) (hB : Lim w B m d ys) (hn : n ≤ 400000) (hm : m ≤ 400000) (hT : Tab w) (ho : Hid (addO (mk g (val xs) e1) (mk k (val ys) e2) = o)) :
    Calls Tryd.prog 28 #[.agg #[.bool g, .slice A n c, .int .i64 e1], .agg #[.bool k, .slice B m d, .int .i64 e2]] w (Told w o (max n m + 65540)) := by
  have h4 := Held3.start w g A n c xs e1 k B m d ys e2 hA hB hT
  have HC := Lib.hid (both_any g A n c xs e1 k B m d ys e2 _ h4.1.2.2.1 h4.1.2.2.2.1 (by omega) (by omega) h4.1.2.2.2.2.1)
  have H4 := Lib.hid h4
  clear hA hB hT h4
  go_enter Tryd.func28, Tryd.ntmps28
  go_wp2_with fail
  refine HC.out.mono ?_
  clear HC
  intro e w1 hT2
  rcases hT2.part with ⟨a, b, h1, h2⟩ | ⟨hno, he, hB1⟩
  case inr =>
    obtain rfl : o = none := by rw [← ho.out]; exact addO_none hno
    clear hT2 hno ho
    subst he
    have HQ := Lib.hid ((H4.out.below hB1).turn (e1' := 0) (e2' := 0) (g' := false) (k' := false) (Nat.le_refl _) (by omega) (by omega) (Lim.nil _ none 0) (Lim.nil _ none 0))
    obtain ⟨⟨k1, k2, _, _, _, _⟩, k3⟩ := H4.out.below hB1
    have x0 := k1.c0
    have x1 := k1.c1
    have x2 := k1.c2
    have xf := k1.fz
    have y0 := k2.c0
    have y1 := k2.c1
    have y2 := k2.c2
    have yf := k2.fz
    have z0 := k3.c0
    have z1 := k3.c1
    have z2 := k3.c2
    have zf := k3.fz
    have Hfin : Hid (Told w none (max n m + 65540) (.returned (.tuple #[.agg #[.bool false, .slice none 0 0, .int .i64 0], .int .i64 2])) (World.put (World.put (World.put w1 w.heap.size false none 0 0 0) (w.heap.size + 1) false none 0 0 0) (w.heap.size + 1 + 1) false none 0 0 0)) :=
      ⟨false, none, 0, 0, [], 0, 2, rfl, Nat.zero_le _, Lim.nil _ _ _, rfl, is_zero, below_put HQ.out.1.2.2.2.2.2 (by omega) _ _ _ _ _⟩
    clear k1 k2 k3 H4 hB1 HQ
    go_wp2
    exact bodyPost_ret (v := .tuple #[.agg #[.bool false, .slice none 0 0, .int .i64 0], .int .i64 2]) (by simp [results, Tryd.results28, go_sem, z0, z1, z2]) rfl Hfin.out
  case inl =>
    rw [h1, h2] at hT2 ho
    obtain ⟨A1, m1, c1, zs, B1, p1, q1, us, rfl, hm1, hp1, hl1, hl2, hb1, hb2, hv1, hv2, hB1⟩ := hT2
    have f1 := (mk_fine h1).1
    have f2 := (mk_fine h2).1
    have HQ := Lib.hid ((H4.out.below hB1).turn (e1' := a.e) (e2' := b.e) (g' := a.neg) (k' := b.neg) (Nat.le_refl _) (by omega) (by omega) hl1 hl2)
    have HF : Hid (Fine a ∧ Fine b) := ⟨f1, f2⟩
    have HV : Hid ((Bare zs ∧ val zs = a.V) ∧ Bare us ∧ val us = b.V) := ⟨⟨hb1, hv1⟩, hb2, hv2⟩
    obtain ⟨⟨k1, k2, _, _, _, _⟩, k3⟩ := H4.out.below hB1
    have x0 := k1.c0
    have x1 := k1.c1
    have x2 := k1.c2
    have xf := k1.fz
    have y0 := k2.c0
    have y1 := k2.c1
    have y2 := k2.c2
    have yf := k2.fz
    have z0 := k3.c0
    have z1 := k3.c1
    have z2 := k3.c2
    have zf := k3.fz
    obtain ⟨s1, hs1⟩ : ∃ s, sgD a.neg a.V = s := ⟨_, rfl⟩
    obtain ⟨s2, hs2⟩ : ∃ s, sgD b.neg b.V = s := ⟨_, rfl⟩
    have HS1 := Lib.hid (sign_l s1 a.neg A1 m1 c1 zs a.e _ HQ.out.1.2.2.1 (by omega) (by rw [hv1]; exact hs1))
    clear k1 k2 k3 hl1 hl2 hb1 hb2 hv1 hv2 hB1 H4 h1 h2 f1 f2
    by_cases ha0 : a.V = 0
    · obtain rfl : o = some b := by rw [← ho.out]; show addB a b = some b; rw [addB, if_pos ha0]
      obtain rfl : s1 = 0 := by rw [← hs1, ha0]; rfl
      go_wp2_with fail
      refine HS1.out.mono ?_
      rintro e w2 ⟨rfl, hB2⟩
      replace HQ := Lib.hid (HQ.out.below hB2)
      clear x0 x1 x2 xf y0 y1 y2 yf z0 z1 z2 zf hB2 HS1 hs1 ho
      obtain ⟨⟨k1, k2, l1, l2, t1, s1⟩, k3⟩ := HQ.out
      have Hfin : Hid (Told w (some b) (max n m + 65540) (.returned (.tuple #[.agg #[.bool b.neg, .slice B1 p1 q1, .int .i64 b.e], .int .i64 0])) (World.put w2 (w.heap.size + 1 + 1) b.neg B1 p1 q1 b.e)) :=
        ⟨b.neg, B1, p1, q1, us, b.e, 0, rfl, by omega, k3.lim l2 _ _ _ _ _, HV.out.2.1, ⟨rfl, rfl, HV.out.2.2, rfl⟩, below_put s1 (by omega) _ _ _ _ _⟩
      have y0 := k2.c0
      have y1 := k2.c1
      have y2 := k2.c2
      have z0 := k3.c0
      have z1 := k3.c1
      have z2 := k3.c2
      have zf := k3.fz
      clear k1 k2 k3 l1 l2 t1 s1 HQ HV HF hs2
      go_wp2
      exact bodyPost_ret (v := .tuple #[.agg #[.bool b.neg, .slice B1 p1 q1, .int .i64 b.e], .int .i64 0]) (by simp [results, Tryd.results28, go_sem, z0, z1, z2]) rfl Hfin.out
    · have hs10 : s1 ≠ 0 := by rw [← hs1, sgD, if_neg ha0]; cases a.neg <;> decide
      have hs11 : decide (s1 = 0) = false := decide_eq_false hs10
      go_wp2_with fail
      refine HS1.out.mono ?_
      rintro e w2 ⟨rfl, hB2⟩
      replace HQ := Lib.hid (HQ.out.below hB2)
      have HS2 := Lib.hid (sign_l s2 b.neg B1 p1 q1 us b.e _ HQ.out.1.2.2.2.1 (by omega) (by rw [HV.out.2.2]; exact hs2))
      clear x0 x1 x2 xf y0 y1 y2 yf z0 z1 z2 zf hB2 HS1 hs1
      obtain ⟨⟨k1, k2, _, _, _, _⟩, k3⟩ := HQ.out
      have y0 := k2.c0
      have y1 := k2.c1
      have y2 := k2.c2
      clear k1 k2 k3
      by_cases hb0 : b.V = 0
      · obtain rfl : o = some a := by rw [← ho.out]; show addB a b = some a; rw [addB, if_neg ha0, if_pos hb0]
        obtain rfl : s2 = 0 := by rw [← hs2, hb0]; rfl
        go_wp2_with fail
        refine HS2.out.mono ?_
        rintro e w3 ⟨rfl, hB2⟩
        replace HQ := Lib.hid (HQ.out.below hB2)
        clear y0 y1 y2 hB2 HS2 hs2 ho
        obtain ⟨⟨k1, k2, l1, l2, t1, s2⟩, k3⟩ := HQ.out
        have Hfin : Hid (Told w (some a) (max n m + 65540) (.returned (.tuple #[.agg #[.bool a.neg, .slice A1 m1 c1, .int .i64 a.e], .int .i64 0])) (World.put w3 (w.heap.size + 1 + 1) a.neg A1 m1 c1 a.e)) :=
          ⟨a.neg, A1, m1, c1, zs, a.e, 0, rfl, by omega, k3.lim l1 _ _ _ _ _, HV.out.1.1, ⟨rfl, rfl, HV.out.1.2, rfl⟩, below_put s2 (by omega) _ _ _ _ _⟩
        have y0 := k1.c0
        have y1 := k1.c1
        have y2 := k1.c2
        have z0 := k3.c0
        have z1 := k3.c1
        have z2 := k3.c2
        have zf := k3.fz
        clear k1 k2 k3 l1 l2 t1 s2 HQ HV HF
        go_wp2
        exact bodyPost_ret (v := .tuple #[.agg #[.bool a.neg, .slice A1 m1 c1, .int .i64 a.e], .int .i64 0]) (by simp [results, Tryd.results28, go_sem, z0, z1, z2]) rfl Hfin.out
      · have hs20 : s2 ≠ 0 := by rw [← hs2, sgD, if_neg hb0]; cases b.neg <;> decide
        have hs21 : decide (s2 = 0) = false := decide_eq_false hs20
        go_wp2_with fail
        refine HS2.out.mono ?_
        rintro e w3 ⟨rfl, hB2⟩
        replace HQ := Lib.hid (HQ.out.below hB2)
        obtain ⟨lo, hlo⟩ : ∃ lo, min a.e b.e = lo := ⟨_, rfl⟩
        obtain ⟨t1, ht1⟩ : ∃ t, (blen a.V : Int) - 1 + a.e = t := ⟨_, rfl⟩
        obtain ⟨t2, ht2⟩ : ∃ t, (blen b.V : Int) - 1 + b.e = t := ⟨_, rfl⟩
        obtain ⟨tm, htm⟩ : ∃ t, max t1 t2 = t := ⟨_, rfl⟩
        have HT1 := Lib.hid (top_l t1 a.neg A1 m1 c1 zs a.e _ HQ.out.1.2.2.1 (by omega) (by rw [HV.out.1.2]; exact ha0) (by rw [topD, HV.out.1.2, HF.out.1.held]; exact ht1))
        clear y0 y1 y2 hB2 HS2 hs2
        obtain ⟨⟨k1, k2, l1, l2, _, _⟩, k3⟩ := HQ.out
        have x0 := k1.c0
        have x1 := k1.c1
        have x2 := k1.c2
        have y2 := k2.c2
        have bl1 := l1.blen_le
        have bl2 := l2.blen_le
        rw [HV.out.1.2] at bl1
        rw [HV.out.2.2] at bl2
        have bp1 := blen_pos ha0
        have bp2 := blen_pos hb0
        have fe1 := HF.out.1.1
        have fe2 := HF.out.1.2.1
        have fe3 := HF.out.2.1
        have fe4 := HF.out.2.2.1
        clear k1 k2 k3 l1 l2
        go_wp2_with fail
        refine HT1.out.mono ?_
        rintro e w4 ⟨rfl, hB2⟩
        replace HQ := Lib.hid (HQ.out.below hB2)
        have HT2 := Lib.hid (top_l t2 b.neg B1 p1 q1 us b.e _ HQ.out.1.2.2.2.1 (by omega) (by rw [HV.out.2.2]; exact hb0) (by rw [topD, HV.out.2.2, HF.out.2.held]; exact ht2))
        clear x0 x1 x2 y2 hB2 HT1
        obtain ⟨⟨k1, k2, l1, l2, _, _⟩, k3⟩ := HQ.out
        have y0 := k2.c0
        have y1 := k2.c1
        have y2 := k2.c2
        clear k1 k2 k3 l1 l2
        go_wp2_with fail
        refine HT2.out.mono ?_
        rintro e w5 ⟨rfl, hB2⟩
        replace HQ := Lib.hid (HQ.out.below hB2)
        clear y0 y1 y2 hB2 HT2
        have htb : tm - lo ≤ 2147483648 + 64 * 400000 ∧ -2147483648 ≤ tm - lo := by omega
        by_cases hfar : 65535 < tm - lo
        · obtain rfl : o = none := by rw [← ho.out]; exact addB_far ha0 hb0 hlo (by rw [ht1, ht2, htm]; exact hfar)
          have hfar' : decide (65535 < tm - lo) = true := decide_eq_true hfar
          obtain ⟨⟨k1, k2, l1, l2, t1', s1'⟩, k3⟩ := HQ.out
          have Hfin : Hid (Told w none (max n m + 65540) (.returned (.tuple #[.agg #[.bool false, .slice none 0 0, .int .i64 0], .int .i64 2])) (World.put w5 (w.heap.size + 1 + 1) false none 0 0 0)) :=
            ⟨false, none, 0, 0, [], 0, 2, rfl, Nat.zero_le _, Lim.nil _ _ _, rfl, is_zero, below_put s1' (by omega) _ _ _ _ _⟩
          have z0 := k3.c0
          have z1 := k3.c1
          have z2 := k3.c2
          have zf := k3.fz
          clear k1 k2 k3 l1 l2 t1' s1' HQ HV HF ho
          go_wp2
          exact bodyPost_ret (v := .tuple #[.agg #[.bool false, .slice none 0 0, .int .i64 0], .int .i64 2]) (by simp [results, Tryd.results28, go_sem, z0, z1, z2]) rfl Hfin.out
        · have hfar' : decide (65535 < tm - lo) = false := decide_eq_false hfar
          obtain ⟨d1, hd1⟩ : ∃ d1 : Nat, a.e - lo = (d1 : Int) := ⟨(a.e - lo).toNat, by omega⟩
          obtain ⟨d2, hd2⟩ : ∃ d2 : Nat, b.e - lo = (d2 : Int) := ⟨(b.e - lo).toNat, by omega⟩
          have hd1' : d1 ≤ 65535 := by omega
          have hd2' : d2 ≤ 65535 := by omega
          obtain ⟨x, hx⟩ : ∃ x, a.V * 2 ^ d1 = x := ⟨_, rfl⟩
          obtain ⟨y, hy⟩ : ∃ y, b.V * 2 ^ d2 = y := ⟨_, rfl⟩
          have Hsum : Hid ((if a.neg = b.neg then mk a.neg (x + y) lo else if x < y then mk b.neg (y - x) lo else mk a.neg (x - y) lo) = o) := by
            rw [← ho.out]
            exact (addB_near ha0 hb0 hlo (by rw [← hx, hd1]; rfl) (by rw [← hy, hd2]; rfl) (by rw [ht1, ht2, htm]; omega)).symm
          have HD1 : Hid (∀ u, Held3 w w.heap.size a.neg A1 m1 c1 zs a.e (w.heap.size + 1) b.neg B1 p1 q1 us b.e (w.heap.size + 1 + 1) u → Calls Tryd.prog 51 #[.agg #[.bool a.neg, .slice A1 m1 c1, .int .i64 a.e], .int .i64 lo] u (Tells1 u a.neg x (d1 + m1 + 1) lo)) := fun u hu => by
            have := down_any a.neg A1 m1 c1 zs a.e lo d1 u hu.1.2.2.1 (by omega) hd1 (by rw [HV.out.1.2]; omega)
            rw [HV.out.1.2, hx] at this
            exact this
          have HD2 : Hid (∀ u, Held3 w w.heap.size a.neg A1 m1 c1 zs a.e (w.heap.size + 1) b.neg B1 p1 q1 us b.e (w.heap.size + 1 + 1) u → Calls Tryd.prog 51 #[.agg #[.bool b.neg, .slice B1 p1 q1, .int .i64 b.e], .int .i64 lo] u (Tells1 u b.neg y (d2 + p1 + 1) lo)) := fun u hu => by
            have := down_any b.neg B1 p1 q1 us b.e lo d2 u hu.1.2.2.2.1 (by omega) hd2 (by rw [HV.out.2.2]; omega)
            rw [HV.out.2.2, hy] at this
            exact this
          have HQd := Lib.hid (HQ.out.below (below_drew _))
          obtain ⟨⟨k1, k2, _, _, _, _⟩, _⟩ := HQ.out
          have x0 := k1.c0
          have x1 := k1.c1
          have x2 := k1.c2
          have y0 := k2.c0
          have y1 := k2.c1
          have y2 := k2.c2
          clear k1 k2 HQ HV HF ho hx hy ht1 ht2
          go_wp2_with fail
          go_region_with (first | (go_at_call 51; (with_reducible refine (HD1.out _ HQd.out).mono ?_); rintro e w6 ⟨A6, m6, c6, vs, rfl, hm6, hl6, hb6, hv6, hB6⟩; have HQ6 := Lib.hid (HQd.out.below hB6); have y60 := HQ6.out.1.2.1.c0; have y61 := HQ6.out.1.2.1.c1; have y62 := HQ6.out.1.2.1.c2) | (go_at_call 51; (with_reducible refine (HD2.out _ HQ6.out).mono ?_); rintro e w7 ⟨A7, m7, c7, ws, rfl, hm7, hl7, hb7, hv7, hB7⟩; have HQ7 := Lib.hid (HQ6.out.below hB7); have x70 := HQ7.out.1.1.c0; have x71 := HQ7.out.1.1.c1; have x72 := HQ7.out.1.1.c2; have x7f := HQ7.out.1.1.fz; have y70 := HQ7.out.1.2.1.c0; have y71 := HQ7.out.1.2.1.c1; have y72 := HQ7.out.1.2.1.c2; have y7f := HQ7.out.1.2.1.fz))
          all_goals (
            have HT7 := Lib.hid (HQ7.out.turn (e1' := lo) (e2' := lo) (g' := a.neg) (k' := b.neg) (Nat.le_refl _) (by omega) (by omega) (hl6.below hB7) hl7)
            have HV7 : Hid (val vs = x ∧ val ws = y) := ⟨hv6, hv7⟩
            clear hl6 hb6 hv6 hB6 HQ6 y60 y61 y62 hl7 hb7 hv7 hB7 HQ7 HQd HD1 HD2 x0 x1 x2 y0 y1 y2
            generalize a.neg = ga at HT7 Hsum x70 ⊢
            generalize b.neg = gb at HT7 Hsum y70 ⊢
            by_cases hsg : ga = gb
            · have Hmk : Hid (mk ga (x + y) lo = o) := by rw [← Hsum.out, if_pos hsg]; rfl
              subst hsg
              have HTd := Lib.hid (HT7.out.below (below_drew _))
              have HA8 := Lib.hid (add_any A6 m6 c6 vs A7 m7 c7 ws _ HTd.out.1.2.2.1 HTd.out.1.2.2.2.1 (by omega) (by omega))
              rw [HV7.out.1, HV7.out.2] at HA8
              have K0 := Lib.hid (And.intro HTd.out.1.1.c0 (And.intro HTd.out.1.1.c1 HTd.out.1.2.1.c1))
              go_wp2_with fail
              go_region_held3 (fun w' => w'.cell? ⟨w.heap.size, 0, none⟩ = some (.bool ga) ∧ w'.cell? ⟨w.heap.size, 1, none⟩ = some (.slice A6 m6 c6) ∧ w'.cell? ⟨w.heap.size + 1, 1, none⟩ = some (.slice A7 m7 c7)) (first | (with_reducible exact K0.out) | (with_reducible exact K8.out) | (with_reducible exact K9.out) | (with_reducible exact K10.out)) (first | (go_at_call 52; (with_reducible refine HA8.out.mono ?_); rintro e w8 ⟨A8, m8, c8, ts, rfl, hm8, hl8, hb8, hv8, hB8⟩; have HQ8 := Lib.hid (HTd.out.below hB8); have K8 := Lib.hid (And.intro HQ8.out.1.1.c0 (And.intro HQ8.out.1.1.c1 HQ8.out.1.2.1.c1)); have HM8 := Lib.hid (make_any ga A8 m8 c8 ts lo w8 hl8 (by omega) HQ8.out.1.2.2.2.2.1); rw [hv8, Hmk.out] at HM8; clear hl8 hb8 hv8 hB8) | (go_at_call 31; (with_reducible refine HM8.out.mono ?_); rintro e w9 ⟨g9, A9, m9, c9, rs, E9, r9, rfl, hm9, hl9, hb9, his9, hB9⟩; have HQ9 := Lib.hid (HQ8.out.below hB9); have K9 := Lib.hid (And.intro HQ9.out.1.1.c0 (And.intro HQ9.out.1.1.c1 HQ9.out.1.2.1.c1)); have K10 := Lib.hid (And.intro (HQ9.out.1.1.other (b' := w.heap.size + 1 + 1) (by omega) g9 A9 m9 c9 E9).c0 (And.intro (HQ9.out.1.1.other (b' := w.heap.size + 1 + 1) (by omega) g9 A9 m9 c9 E9).c1 (HQ9.out.1.2.1.other (b' := w.heap.size + 1 + 1) (by omega) g9 A9 m9 c9 E9).c1)); have z0 := HQ9.out.2.c0; have z1 := HQ9.out.2.c1; have z2 := HQ9.out.2.c2; have zf := HQ9.out.2.fz))
              all_goals (
                have Hfin : Hid (Told w o (max n m + 65540) (.returned (.tuple #[.agg #[.bool g9, .slice A9 m9 c9, .int .i64 E9], .int .i64 r9])) (World.put w9 (w.heap.size + 1 + 1) g9 A9 m9 c9 E9)) :=
                  ⟨g9, A9, m9, c9, rs, E9, r9, rfl, by omega, HQ9.out.2.lim hl9 _ _ _ _ _, hb9, his9, below_put HQ9.out.1.2.2.2.2.2 (by omega) _ _ _ _ _⟩
                clear K0 K8 K9 K10 HA8 HM8 HQ8 HQ9 HTd HT7 hl9 hb9 his9 hB9
                go_wp2_with fail
                exact bodyPost_ret (v := .tuple #[.agg #[.bool g9, .slice A9 m9 c9, .int .i64 E9], .int .i64 r9]) (by simp [results, Tryd.results28, go_sem, z0, z1, z2]) rfl Hfin.out)
            · have Hap : Hid ((if val vs < val ws then mk gb (val ws - val vs) lo else mk ga (val vs - val ws) lo) = o) := by rw [HV7.out.1, HV7.out.2, ← Hsum.out, if_neg hsg]; rfl
              have hsg1 : (ga == gb) = false := by cases ga <;> cases gb <;> simp_all
              have HP := Lib.hid (apart_any ga A6 m6 c6 vs gb A7 m7 c7 ws lo _ HT7.out.1.2.2.1 HT7.out.1.2.2.2.1 (by omega) (by omega) HT7.out.1.2.2.2.2.1 o Hap)
              clear Hap Hsum
              go_wp2_with fail
              refine HP.out.mono ?_
              rintro e w9 ⟨g9, A9, m9, c9, rs, E9, r9, rfl, hm9, hl9, hb9, his9, hB9⟩
              have HQ9 := Lib.hid (HT7.out.below hB9)
              have z0 := HQ9.out.2.c0
              have z1 := HQ9.out.2.c1
              have z2 := HQ9.out.2.c2
              have zf := HQ9.out.2.fz
              have Hfin : Hid (Told w o (max n m + 65540) (.returned (.tuple #[.agg #[.bool g9, .slice A9 m9 c9, .int .i64 E9], .int .i64 r9])) (World.put w9 (w.heap.size + 1 + 1) g9 A9 m9 c9 E9)) :=
                ⟨g9, A9, m9, c9, rs, E9, r9, rfl, by omega, HQ9.out.2.lim hl9 _ _ _ _ _, hb9, his9, below_put HQ9.out.1.2.2.2.2.2 (by omega) _ _ _ _ _⟩
              clear HP HQ9 HT7 hl9 hb9 his9 hB9 x70 x71 x72 x7f y70 y71 y72 y7f
              go_wp2
              exact bodyPost_ret (v := .tuple #[.agg #[.bool g9, .slice A9 m9 c9, .int .i64 E9], .int .i64 r9]) (by simp [results, Tryd.results28, go_sem, z0, z1, z2]) rfl Hfin.out)
end Go.Proofs.YtgacafdkhailmaaDoor
