/- Words for the walk of exps.Split; that walk where nothing is split (written by law_esplit.py). -/
import Derived.Test.YtijhdlkfihjbiaaGreatDoorEpEnds
import Derived.Test.YtijhdlkfihjbiaaGreatDoorEpLess
import Derived.Test.YtijhdlkfihjbiaaGreatDoorK6
namespace Go.Proofs.YtijhdlkfihjbiaaGreatDoor
open Go.RowKit

/-- Limbs of a value. -/
def Mv (w : World) (V : Nat) (A : Option Addr) (m c : Nat) (es : List Nat) : Prop := Lim w A m c es ∧ Bare es ∧ val es = V
theorem Mv.below {w w' : World} {V : Nat} {A : Option Addr} {m c : Nat} {es : List Nat} (h : Mv w V A m c es) (hb : Below w.heap.size w w') : Mv w' V A m c es := ⟨h.1.below hb, h.2⟩
theorem Mv.putW {w : World} {V : Nat} {A : Option Addr} {m c : Nat} {es : List Nat} (h : Mv w V A m c es) {p : Nat} {g0 : Bool} {A0 : Option Addr} {n0 c0 : Nat} (hb : Wd w p g0 A0 n0 c0) (g : Bool) (A' : Option Addr) (n' c' : Nat) : Mv (World.putW w p g A' n' c') V A m c es := ⟨hb.lim h.1 _ _ _ _, h.2⟩
theorem below_2w (w : World) (o1 o2 : Obj) : Below w.heap.size w ((w.alloc o1).alloc o2) := ((Below.refl _ _).alloc (Nat.le_refl _) _).alloc (by simp) _
/-- A whole number is told, by its sign and its size. -/
def WT (w : World) (g : Bool) (V L : Nat) (e : Ending) (w' : World) : Prop := ∃ A m c zs, e = .returned (.agg #[.bool g, .slice A m c]) ∧ m ≤ L ∧ Lim w' A m c zs ∧ Bare zs ∧ val zs = V ∧ Below w.heap.size w w'
theorem WTold.wt {w w' : World} {Z : Int} {L : Nat} {e : Ending} (h : WTold w Z L e w') {g : Bool} {V M : Nat} (hg : decide (Z < 0) = g) (hV : Z.natAbs = V) (hM : L ≤ M) : WT w g V M e w' := by
  obtain ⟨A, m, c, zs, h1, h2, h3, h4, h5, h6⟩ := h
  exact ⟨A, m, c, zs, by rw [h1, hg], Nat.le_trans h2 hM, h3, h4, by rw [h5, hV], h6⟩

/-- New blocks, each with a number that is 0 yet; the newest first. -/
def HoldV (u0 : World) (bs : List Nat) (w : World) : Prop :=
  Below u0.heap.size u0 w ∧ (∀ p ∈ bs, Wd w p false none 0 0 ∧ u0.heap.size ≤ p) ∧ bs.Pairwise (fun x y => y < x)
section
variable {u0 : World} {bs : List Nat} {w w' : World}
theorem HoldV.below (hh : HoldV u0 bs w) (hb : Below w.heap.size w w') : HoldV u0 bs w' :=
  ⟨hh.1.trans (hb.mono hh.1.size), fun p hp => ⟨(hh.2.1 p hp).1.below hb, (hh.2.1 p hp).2⟩, hh.2.2⟩
theorem HoldV.one (hh : HoldV u0 bs w) : HoldV u0 (w.heap.size :: bs) (w.alloc (.cells #[.bool false, .slice none 0 0] 69)) := by
  have h2 := hh.below (below1 w (.cells #[.bool false, .slice none 0 0] 69))
  refine ⟨h2.1, fun p hp => ?_, ?_⟩
  · rcases List.mem_cons.1 hp with rfl | hp
    · exact ⟨Wd.new w _ _ _ _, hh.1.size⟩
    · exact h2.2.1 p hp
  · exact List.pairwise_cons.2 ⟨fun p hp => (hh.2.1 p hp).1.lt, hh.2.2⟩
theorem HoldV.two (hh : HoldV u0 bs w) : HoldV u0 ((w.heap.size + 1) :: w.heap.size :: bs) ((w.alloc (.cells #[.bool false, .slice none 0 0] 69)).alloc (.cells #[.bool false, .slice none 0 0] 69)) := by
  have h2 := hh.one.one
  rw [World.size_alloc] at h2
  exact h2
theorem HoldV.start (u0 : World) : HoldV u0 [] u0 := ⟨Below.refl _ _, fun _ hp => absurd hp (List.not_mem_nil), List.Pairwise.nil⟩
theorem HoldV.old (hh : HoldV u0 bs w) : Below u0.heap.size u0 w := hh.1
theorem HoldV.first {X : Nat} (hh : HoldV u0 (X :: bs) w) : Wd w X false none 0 0 := (hh.2.1 X (List.mem_cons.2 (Or.inl rfl))).1
theorem HoldV.second {X Y : Nat} (hh : HoldV u0 (Y :: X :: bs) w) : Wd w X false none 0 0 ∧ X < Y :=
  ⟨(hh.2.1 X (List.mem_cons.2 (Or.inr (List.mem_cons.2 (Or.inl rfl))))).1, (List.pairwise_cons.1 hh.2.2).1 X (List.mem_cons.2 (Or.inl rfl))⟩
theorem HoldV.a1 (hh : HoldV u0 bs w) (o : Obj) : Below u0.heap.size u0 (w.alloc o) := hh.1.alloc hh.1.size o
theorem HoldV.a2 (hh : HoldV u0 bs w) (o1 o2 : Obj) : Below u0.heap.size u0 ((w.alloc o1).alloc o2) := (hh.1.alloc hh.1.size o1).alloc (hh.1.alloc hh.1.size o1).size o2
variable {X Y : Nat}
theorem HoldV.at1 (hh : HoldV u0 (X :: bs) w) (g : Bool) (A : Option Addr) (n c : Nat) : Below u0.heap.size u0 (World.putW w X g A n c) :=
  below_putW hh.1 (hh.2.1 X (List.mem_cons.2 (Or.inl rfl))).2 _ _ _ _
theorem HoldV.at1a (hh : HoldV u0 (X :: bs) w) (g : Bool) (A : Option Addr) (n c : Nat) (o : Obj) : Below u0.heap.size u0 ((World.putW w X g A n c).alloc o) := (hh.at1 g A n c).alloc (hh.at1 g A n c).size o
theorem HoldV.at2 (hh : HoldV u0 (Y :: X :: bs) w) (g : Bool) (A : Option Addr) (n c : Nat) : Below u0.heap.size u0 (World.putW w X g A n c) :=
  below_putW hh.1 (hh.2.1 X (List.mem_cons.2 (Or.inr (List.mem_cons.2 (Or.inl rfl))))).2 _ _ _ _
theorem HoldV.at12 (hh : HoldV u0 (Y :: X :: bs) w) (g : Bool) (A : Option Addr) (n c : Nat) (g' : Bool) (A' : Option Addr) (n' c' : Nat) : Below u0.heap.size u0 (World.putW (World.putW w Y g A n c) X g' A' n' c') :=
  below_putW (hh.at1 g A n c) (hh.2.1 X (List.mem_cons.2 (Or.inr (List.mem_cons.2 (Or.inl rfl))))).2 _ _ _ _
theorem HoldV.at21 (hh : HoldV u0 (Y :: X :: bs) w) (g : Bool) (A : Option Addr) (n c : Nat) (g' : Bool) (A' : Option Addr) (n' c' : Nat) : Below u0.heap.size u0 (World.putW (World.putW w X g A n c) Y g' A' n' c') :=
  below_putW (hh.at2 g A n c) (hh.2.1 Y (List.mem_cons.2 (Or.inl rfl))).2 _ _ _ _
end
/-- Two numbers in new blocks. -/
def RelV (u0 : World) (p : Nat) (g1 : Bool) (A1 : Option Addr) (m1 c1 : Nat) (V1 : Nat) (es1 : List Nat) (q : Nat) (g2 : Bool) (A2 : Option Addr) (m2 c2 : Nat) (V2 : Nat) (es2 : List Nat) (w : World) : Prop :=
  Below u0.heap.size u0 w ∧ Wd w p g1 A1 m1 c1 ∧ Mv w V1 A1 m1 c1 es1 ∧ Wd w q g2 A2 m2 c2 ∧ Mv w V2 A2 m2 c2 es2
section
variable {u0 : World} {g1 : Bool} {A1 : Option Addr} {m1 c1 : Nat} {V1 : Nat} {es1 : List Nat} {g2 : Bool} {A2 : Option Addr} {m2 c2 : Nat} {V2 : Nat} {es2 : List Nat} {w w' : World} {p q : Nat}
theorem RelV.swap (hh : RelV u0 p g1 A1 m1 c1 V1 es1 q g2 A2 m2 c2 V2 es2 w) : RelV u0 q g2 A2 m2 c2 V2 es2 p g1 A1 m1 c1 V1 es1 w :=
  ⟨hh.1, hh.2.2.2.1, hh.2.2.2.2, hh.2.1, hh.2.2.1⟩
theorem RelV.below (hh : RelV u0 p g1 A1 m1 c1 V1 es1 q g2 A2 m2 c2 V2 es2 w) (hb : Below w.heap.size w w') : RelV u0 p g1 A1 m1 c1 V1 es1 q g2 A2 m2 c2 V2 es2 w' :=
  ⟨hh.1.trans (hb.mono hh.1.size), hh.2.1.below hb, hh.2.2.1.below hb, hh.2.2.2.1.below hb, hh.2.2.2.2.below hb⟩
theorem RelV.old (hh : RelV u0 p g1 A1 m1 c1 V1 es1 q g2 A2 m2 c2 V2 es2 w) : Below u0.heap.size u0 w := hh.1
/-- Both blocks came last. -/
theorem RelV.new2 (hh : HoldV u0 [] w) (h1 : Mv w V1 A1 m1 c1 es1) (h2 : Mv w V2 A2 m2 c2 es2) :
    RelV u0 w.heap.size g1 A1 m1 c1 V1 es1 (w.heap.size + 1) g2 A2 m2 c2 V2 es2 ((w.alloc (.cells #[.bool g1, .slice A1 m1 c1] 69)).alloc (.cells #[.bool g2, .slice A2 m2 c2] 69)) := by
  have hb := below_2w w (.cells #[.bool g1, .slice A1 m1 c1] 69) (.cells #[.bool g2, .slice A2 m2 c2] 69)
  have b2 := Wd.new (w.alloc (.cells #[.bool g1, .slice A1 m1 c1] 69)) g2 A2 m2 c2
  rw [World.size_alloc] at b2
  exact ⟨hh.1.trans (hb.mono hh.1.size), (Wd.new w _ _ _ _).alloc _, h1.below hb, b2, h2.below hb⟩
/-- One came ahead. -/
theorem RelV.new1 {X : Nat} (hh : HoldV u0 [X] w) (h1 : Mv w V1 A1 m1 c1 es1) (h2 : Mv w V2 A2 m2 c2 es2) :
    RelV u0 X g1 A1 m1 c1 V1 es1 w.heap.size g2 A2 m2 c2 V2 es2 ((World.putW w X g1 A1 m1 c1).alloc (.cells #[.bool g2, .slice A2 m2 c2] 69)) := by
  obtain ⟨k1, k2⟩ := hh.2.1 X (List.mem_cons.2 (Or.inl rfl))
  have e1 := below_putW hh.1 k2 g1 A1 m1 c1
  have hb := below1 (World.putW w X g1 A1 m1 c1) (.cells #[.bool g2, .slice A2 m2 c2] 69)
  have b2 := Wd.new (World.putW w X g1 A1 m1 c1) g2 A2 m2 c2
  rw [putW_size] at b2
  exact ⟨e1.trans (hb.mono e1.size), (k1.putW _ _ _ _).below hb, (h1.putW k1 _ _ _ _).below hb, b2, (h2.putW k1 _ _ _ _).below hb⟩
/-- Both came ahead. -/
theorem RelV.new0 {X Y : Nat} (hh : HoldV u0 [Y, X] w) (h1 : Mv w V1 A1 m1 c1 es1) (h2 : Mv w V2 A2 m2 c2 es2) :
    RelV u0 X g1 A1 m1 c1 V1 es1 Y g2 A2 m2 c2 V2 es2 (World.putW (World.putW w X g1 A1 m1 c1) Y g2 A2 m2 c2) ∧
    RelV u0 X g1 A1 m1 c1 V1 es1 Y g2 A2 m2 c2 V2 es2 (World.putW (World.putW w Y g2 A2 m2 c2) X g1 A1 m1 c1) := by
  obtain ⟨x1, x2⟩ := hh.2.1 X (List.mem_cons.2 (Or.inr (List.mem_cons.2 (Or.inl rfl))))
  obtain ⟨y1, y2⟩ := hh.2.1 Y (List.mem_cons.2 (Or.inl rfl))
  have hXY := (List.pairwise_cons.1 hh.2.2).1 X (List.mem_cons.2 (Or.inl rfl))
  constructor
  · have q1 := x1.putW g1 A1 m1 c1
    have q2 := y1.other (b' := X) (by omega) g1 A1 m1 c1
    exact ⟨below_putW (below_putW hh.1 x2 _ _ _ _) y2 _ _ _ _, q1.other (by omega) _ _ _ _, (h1.putW x1 _ _ _ _).putW q2 _ _ _ _, q2.putW _ _ _ _, (h2.putW x1 _ _ _ _).putW q2 _ _ _ _⟩
  · have q1 := y1.putW g2 A2 m2 c2
    have q2 := x1.other (b' := Y) (by omega) g2 A2 m2 c2
    exact ⟨below_putW (below_putW hh.1 y2 _ _ _ _) x2 _ _ _ _, q2.putW _ _ _ _, (h1.putW y1 _ _ _ _).putW q2 _ _ _ _, q1.other (by omega) _ _ _ _, (h2.putW y1 _ _ _ _).putW q2 _ _ _ _⟩
end


/-- What exps.Split tells: how often, both numbers, an error. -/
def SplitTold (w : World) (Q : Int → Nat → Nat → Int → Nat → Nat → Prop) (e : Ending) (w' : World) : Prop :=
  ∃ k A1 m1 c1 zs A2 m2 c2 us r, e = .returned (.tuple #[.int .i64 k, .slice A1 m1 c1, .slice A2 m2 c2, .int .i64 r]) ∧ m1 ≤ 150 ∧ m2 ≤ 150 ∧ Lim w' A1 m1 c1 zs ∧ Lim w' A2 m2 c2 us ∧ Below w.heap.size w w' ∧ Q k (val zs) (val us) r m1 m2
def SplitP (g1 : Bool) (V1 : Nat) (e1 : Int) (g2 : Bool) (V2 : Nat) (e2 s k : Int) (a b : Nat) (r : Int) (m1 m2 : Nat) : Prop :=
  (∃ lo hi c d, SplitOk g1 V1 e1 g2 V2 e2 s lo hi ∧ EpW s.toNat lo hi k a b c d ∧ b ≤ 2 ^ s.toNat ∧ r = 0) ∨ (SplitNo g1 V1 e1 g2 V2 e2 s ∧ r = 1 ∧ k = 0 ∧ m1 = 0 ∧ m2 = 0)
theorem split_nil {w w' : World} {g1 : Bool} {V1 : Nat} {e1 : Int} {g2 : Bool} {V2 : Nat} {e2 s : Int} (h : SplitNo g1 V1 e1 g2 V2 e2 s) (hb : Below w.heap.size w w') : SplitTold w (SplitP g1 V1 e1 g2 V2 e2 s) (.returned (.tuple #[.int .i64 0, .slice none 0 0, .slice none 0 0, .int .i64 1])) w' :=
  ⟨0, none, 0, 0, [], none, 0, 0, [], 1, rfl, by decide, by decide, Lim.nil _ _ _, Lim.nil _ _ _, hb, Or.inr ⟨h, rfl, rfl, rfl, rfl⟩⟩
theorem spK_none {g1 : Bool} {V1 : Nat} {e1 : Int} {g2 : Bool} {V2 : Nat} {e2 s : Int} (h : ¬ ∃ lo hi, EndsOk g1 V1 e1 g2 V2 e2 lo hi) : SplitNo g1 V1 e1 g2 V2 e2 s := Or.inl fun ⟨lo, hi, h1, h2, h3, h4, h5, _⟩ => h ⟨lo, hi, h1, h2, h3, h4, h5⟩
/-- What is reckoned. -/
theorem split_num {z : Nat} {lo hi : Dy} {c d : Nat} (hz : 8 ≤ z) (hz9 : z ≤ 8900) (fl : Fine lo) (fh : Fine hi) (ml : Mid lo) (mh : Mid hi) (hle : dw lo.neg lo.V lo.e ≤ dw hi.neg hi.V hi.e) (v1 : AtV false 1 3 (z + 1) c) (v2 : AtV true 1 3 (z + 1) d) :
    ∃ (k : Int) (a b : Nat), EpW z lo hi k a b c d ∧ k.natAbs ≤ 12300 ∧ blen a ≤ 64 * 140 ∧ blen b ≤ 64 * 140 ∧ c ≠ 0 ∧ d ≠ 0 ∧ (flU z lo < 0 → upq (flU z lo).natAbs c = k.natAbs ∧ -(k.natAbs : Int) = k ∧ flU z lo - k * (c : Int) = (a : Int) ∧ clU z hi - k * (d : Int) = (b : Int)) ∧
      (0 ≤ flU z lo → (flU z lo).natAbs / d = k.natAbs ∧ (k.natAbs : Int) = k ∧ flU z lo - k * (d : Int) = (a : Int) ∧ clU z hi - k * (c : Int) = (b : Int)) := by
  obtain ⟨t1, t2, t3, t4⟩ := ln2_third v1 v2
  have hW : 2 ^ 8 ≤ 2 ^ z := Nat.pow_le_pow_right (by decide) hz
  have e8 : (2 : Nat) ^ 8 = 256 := rfl
  rw [e8] at hW
  have c0 : 0 < c := by omega
  obtain ⟨a, b, g1, _, _, _⟩ := sp_at c0 t3 (fl_cl (s := z) hle)
  have hw : EpW z lo hi (spK (flU z lo) c d) a b c d := ⟨v1, v2, rfl, g1⟩
  have hk := epw_k (n := 4097) hz hw hle (by have := mid_far (s := z) fl ml (by omega); omega)
  have sg := spK_sg (flU z lo) d c0
  have f1 := mid_far (s := z) fl ml (by omega)
  have f2 := mid_far2 (s := z) fh mh (by omega)
  obtain ⟨k, hk'⟩ : ∃ k, spK (flU z lo) c d = k := ⟨_, rfl⟩
  rw [hk'] at g1 hw hk sg
  have gk := goes_yes (L := flU z lo) (c := c) (d := d)
  have gn := goes_no (L := flU z lo) (c := c) (d := d)
  rw [hk'] at gk gn
  obtain ⟨s1, s2⟩ := g1
  have e14 : 2 ^ (z + 15) = 2 ^ z * 32768 := Nat.pow_add ..
  have kc : (k * (c : Int)).natAbs ≤ 12300 * 2 ^ z := by
    rw [Int.natAbs_mul, Int.natAbs_natCast]
    exact Nat.mul_le_mul (by omega) (by omega)
  have kd : (k * (d : Int)).natAbs ≤ 12300 * 2 ^ z := by
    rw [Int.natAbs_mul, Int.natAbs_natCast]
    exact Nat.mul_le_mul (by omega) (by omega)
  have short : ∀ {n : Nat}, n < 2 ^ (z + 15) → blen n ≤ 64 * 140 := fun h => by
    have := blen_le_iff.2 h
    omega
  have ha : a < 2 ^ (z + 15) := by
    rw [e14]
    clear e14 hw v1 v2
    generalize 2 ^ z = Wz at *
    split at s1 <;> omega
  have hb : b < 2 ^ (z + 15) := by
    rw [e14]
    clear e14 hw v1 v2
    generalize 2 ^ z = Wz at *
    split at s2 <;> omega
  refine ⟨k, a, b, hw, by omega, short ha, short hb, by omega, by omega, fun h => ?_, fun h => ?_⟩
  · have gn' := gn h c0
    rw [if_neg (by omega)] at s1 s2
    exact ⟨by omega, by omega, by omega, by omega⟩
  · have gk' := gk (by omega)
    rw [if_pos (by omega)] at s1 s2
    exact ⟨by omega, by omega, by omega, by omega⟩

set_option maxHeartbeats 2000000 in
set_option maxRecDepth 20000 in
theorem split_noa (g1 : Bool) (A1 : Option Addr) (n1 c1 : Nat) (xs : List Nat) (e1 : Int) (g2 : Bool) (A2 : Option Addr) (n2 c2 : Nat) (ys : List Nat) (e2 : Int) (s : Int) (w : World) (hA : Lim w A1 n1 c1 xs) (hB : Lim w A2 n2 c2 ys) (hn1 : n1 ≤ 4294967296) (hn2 : n2 ≤ 4294967296) (hT : Tab w) (hno : ¬ ∃ lo hi, EndsOk g1 (val xs) e1 g2 (val ys) e2 lo hi) :
    Calls Tryz.prog 12 #[.agg #[.bool g1, .slice A1 n1 c1, .int .i64 e1, .bool g2, .slice A2 n2 c2, .int .i64 e2], .int .i64 s] w (SplitTold w (SplitP g1 (val xs) e1 g2 (val ys) e2 s)) := by
  have a1 := below1 w (.cells #[.bool g1, .slice A1 n1 c1, .int .i64 e1, .bool g2, .slice A2 n2 c2, .int .i64 e2] 34)
  have i1 := Ib.new w g1 A1 n1 c1 e1 g2 A2 n2 c2 e2
  have H1 := Lib.hid (ends_l g1 A1 n1 c1 xs e1 g2 A2 n2 c2 ys e2 _ (hA.below a1) (hB.below a1) hn1 hn2 (hT.below a1))
  have HT := Lib.hid (hT.below a1)
  have HS := Lib.hid a1
  have x0 := i1.x0
  have x1 := i1.x1
  have x2 := i1.x2
  have x3 := i1.x3
  have x4 := i1.x4
  have x5 := i1.x5

  have HN := Lib.hid (spK_none (s := s) hno)
  have HO := Lib.hid hno
  clear hA hB hT a1 i1 hno
  go_enter Tryz.func12, Tryz.ntmps12
  go_wp2_with fail
  refine H1.out.mono ?_
  rintro e w1 ⟨ga, Aa, ma, ca, zs, ea, gb, Ab, mb, cb, us, eb, ok, rfl, hl1, hl2, hb1, hb2, hB1, hq⟩
  obtain rfl : ok = false := by
    rcases hq with ⟨h, h2⟩ | ⟨h, h2⟩
    · exact absurd ⟨_, _, h2⟩ HO.out
    · exact h
  have a2 := below_2w w1 (.cells #[.bool ga, .slice Aa ma ca, .int .i64 ea] 32) (.cells #[.bool gb, .slice Ab mb cb, .int .i64 eb] 32)
  replace HS := Lib.hid ((HS.out.trans (hB1.mono HS.out.size)).trans (a2.mono (HS.out.trans (hB1.mono HS.out.size)).size))
  replace HT := Lib.hid ((HT.out.below hB1).below a2)
  clear x0 x1 x2 x3 x4 x5 hl1 hl2 hb1 hb2 hB1 hq a2 H1 HO
  have Hfin := Lib.hid (split_nil HN.out HS.out)
  clear HS HT HN
  go_wp2
  exact bodyPost_ret (v := .tuple #[.int .i64 0, .slice none 0 0, .slice none 0 0, .int .i64 1]) (by simp [results, Tryz.results12, go_sem]) rfl Hfin.out

set_option maxHeartbeats 2000000 in
set_option maxRecDepth 20000 in
theorem split_nob (g1 : Bool) (A1 : Option Addr) (n1 c1 : Nat) (xs : List Nat) (e1 : Int) (g2 : Bool) (A2 : Option Addr) (n2 c2 : Nat) (ys : List Nat) (e2 : Int) (s : Int) (w : World) (hA : Lim w A1 n1 c1 xs) (hB : Lim w A2 n2 c2 ys) (hn1 : n1 ≤ 4294967296) (hn2 : n2 ≤ 4294967296) (hT : Tab w) (hok : ∃ lo hi, EndsOk g1 (val xs) e1 g2 (val ys) e2 lo hi) (hs : 8900 < s) :
    Calls Tryz.prog 12 #[.agg #[.bool g1, .slice A1 n1 c1, .int .i64 e1, .bool g2, .slice A2 n2 c2, .int .i64 e2], .int .i64 s] w (SplitTold w (SplitP g1 (val xs) e1 g2 (val ys) e2 s)) := by
  have a1 := below1 w (.cells #[.bool g1, .slice A1 n1 c1, .int .i64 e1, .bool g2, .slice A2 n2 c2, .int .i64 e2] 34)
  have i1 := Ib.new w g1 A1 n1 c1 e1 g2 A2 n2 c2 e2
  have H1 := Lib.hid (ends_l g1 A1 n1 c1 xs e1 g2 A2 n2 c2 ys e2 _ (hA.below a1) (hB.below a1) hn1 hn2 (hT.below a1))
  have HT := Lib.hid (hT.below a1)
  have HS := Lib.hid a1
  have x0 := i1.x0
  have x1 := i1.x1
  have x2 := i1.x2
  have x3 := i1.x3
  have x4 := i1.x4
  have x5 := i1.x5

  have HN : Hid (SplitNo g1 (val xs) e1 g2 (val ys) e2 s) := Or.inl fun ⟨lo, hi, _, _, _, _, _, h1, h2⟩ => by omega
  have HO := Lib.hid hok
  have d1 : decide ((8900 : Int) < s) = true := decide_eq_true hs
  clear hA hB hT a1 i1 hok
  go_enter Tryz.func12, Tryz.ntmps12
  go_wp2_with fail
  refine H1.out.mono ?_
  rintro e w1 ⟨ga, Aa, ma, ca, zs, ea, gb, Ab, mb, cb, us, eb, ok, rfl, hl1, hl2, hb1, hb2, hB1, hq⟩
  obtain rfl : ok = true := by
    rcases hq with ⟨h, h2⟩ | ⟨h, h2⟩
    · exact h
    · exact absurd HO.out h2
  have a2 := below_2w w1 (.cells #[.bool ga, .slice Aa ma ca, .int .i64 ea] 32) (.cells #[.bool gb, .slice Ab mb cb, .int .i64 eb] 32)
  replace HS := Lib.hid ((HS.out.trans (hB1.mono HS.out.size)).trans (a2.mono (HS.out.trans (hB1.mono HS.out.size)).size))
  replace HT := Lib.hid ((HT.out.below hB1).below a2)
  clear x0 x1 x2 x3 x4 x5 hl1 hl2 hb1 hb2 hB1 hq a2 H1 HO
  have Hfin := Lib.hid (split_nil HN.out HS.out)
  clear HS HT HN
  go_wp2
  exact bodyPost_ret (v := .tuple #[.int .i64 0, .slice none 0 0, .slice none 0 0, .int .i64 1]) (by simp [results, Tryz.results12, go_sem]) rfl Hfin.out

set_option maxHeartbeats 2000000 in
set_option maxRecDepth 20000 in
theorem split_noc (g1 : Bool) (A1 : Option Addr) (n1 c1 : Nat) (xs : List Nat) (e1 : Int) (g2 : Bool) (A2 : Option Addr) (n2 c2 : Nat) (ys : List Nat) (e2 : Int) (s : Int) (w : World) (hA : Lim w A1 n1 c1 xs) (hB : Lim w A2 n2 c2 ys) (hn1 : n1 ≤ 4294967296) (hn2 : n2 ≤ 4294967296) (hT : Tab w) (hok : ∃ lo hi, EndsOk g1 (val xs) e1 g2 (val ys) e2 lo hi) (hs1 : -9223372036854775808 ≤ s) (hs : s < 8) :
    Calls Tryz.prog 12 #[.agg #[.bool g1, .slice A1 n1 c1, .int .i64 e1, .bool g2, .slice A2 n2 c2, .int .i64 e2], .int .i64 s] w (SplitTold w (SplitP g1 (val xs) e1 g2 (val ys) e2 s)) := by
  have a1 := below1 w (.cells #[.bool g1, .slice A1 n1 c1, .int .i64 e1, .bool g2, .slice A2 n2 c2, .int .i64 e2] 34)
  have i1 := Ib.new w g1 A1 n1 c1 e1 g2 A2 n2 c2 e2
  have H1 := Lib.hid (ends_l g1 A1 n1 c1 xs e1 g2 A2 n2 c2 ys e2 _ (hA.below a1) (hB.below a1) hn1 hn2 (hT.below a1))
  have HT := Lib.hid (hT.below a1)
  have HS := Lib.hid a1
  have x0 := i1.x0
  have x1 := i1.x1
  have x2 := i1.x2
  have x3 := i1.x3
  have x4 := i1.x4
  have x5 := i1.x5

  have HN : Hid (SplitNo g1 (val xs) e1 g2 (val ys) e2 s) := Or.inl fun ⟨lo, hi, _, _, _, _, _, h1, h2⟩ => by omega
  have HO := Lib.hid hok
  have d1 : decide ((8900 : Int) < s) = false := decide_eq_false (by omega)
  clear hA hB hT a1 i1 hok
  go_enter Tryz.func12, Tryz.ntmps12
  go_wp2_with fail
  refine H1.out.mono ?_
  rintro e w1 ⟨ga, Aa, ma, ca, zs, ea, gb, Ab, mb, cb, us, eb, ok, rfl, hl1, hl2, hb1, hb2, hB1, hq⟩
  obtain rfl : ok = true := by
    rcases hq with ⟨h, h2⟩ | ⟨h, h2⟩
    · exact h
    · exact absurd HO.out h2
  have a2 := below_2w w1 (.cells #[.bool ga, .slice Aa ma ca, .int .i64 ea] 32) (.cells #[.bool gb, .slice Ab mb cb, .int .i64 eb] 32)
  replace HS := Lib.hid ((HS.out.trans (hB1.mono HS.out.size)).trans (a2.mono (HS.out.trans (hB1.mono HS.out.size)).size))
  replace HT := Lib.hid ((HT.out.below hB1).below a2)
  clear x0 x1 x2 x3 x4 x5 hl1 hl2 hb1 hb2 hB1 hq a2 H1 HO
  have H2 := Lib.hid (ln2_meets s _ HT.out hs1 (by omega))
  go_wp2_with fail
  refine H2.out.mono ?_
  rintro e w2 ⟨A3, m3, c3, ts, A4, m4, c4, vs, r, rfl, hm3, hm4, hl3, hl4, hB2, hq2⟩
  obtain rfl : r = 1 := by
    rcases hq2 with ⟨h, _⟩ | ⟨_, h, _⟩
    · omega
    · exact h
  replace HS := Lib.hid (HS.out.trans (hB2.mono HS.out.size))
  clear H2 hl3 hl4 hB2 hq2
  have Hfin := Lib.hid (split_nil HN.out HS.out)
  clear HS HT HN
  go_wp2
  exact bodyPost_ret (v := .tuple #[.int .i64 0, .slice none 0 0, .slice none 0 0, .int .i64 1]) (by simp [results, Tryz.results12, go_sem]) rfl Hfin.out

end Go.Proofs.YtijhdlkfihjbiaaGreatDoor
