/- The walk of exps.ends (written by law_eless.py). -/
import Derived.Test.YtijhdlkfihjbiaaGreatDoorEpIsEnd
import Derived.Test.YtijhdlkfihjbiaaGreatDoorK4
namespace Go.Proofs.YtijhdlkfihjbiaaGreatDoor
open Go.RowKit

/-- The interval, both ends' variables, its lists. -/
def HoldE3 (w : World) (g1 : Bool) (A1 : Option Addr) (n1 c1 : Nat) (xs : List Nat) (e1 : Int) (g2 : Bool) (A2 : Option Addr) (n2 c2 : Nat) (ys : List Nat) (e2 : Int) (ga : Bool) (Aa : Option Addr) (ma ca : Nat) (ea : Int) (gb : Bool) (Ab : Option Addr) (mb cb : Nat) (eb : Int) (u : World) : Prop :=
  Ib u w.heap.size g1 A1 n1 c1 e1 g2 A2 n2 c2 e2 ∧ Bd u (w.heap.size + 1) 32 ga Aa ma ca ea ∧ Bd u (w.heap.size + 1 + 1) 32 gb Ab mb cb eb ∧ Tab u ∧ Lim u A1 n1 c1 xs ∧ Lim u A2 n2 c2 ys ∧ Below w.heap.size w u
section
variable {w u u' : World} {g1 : Bool} {A1 : Option Addr} {n1 c1 : Nat} {xs : List Nat} {e1 : Int} {g2 : Bool} {A2 : Option Addr} {n2 c2 : Nat} {ys : List Nat} {e2 : Int} {ga : Bool} {Aa : Option Addr} {ma ca : Nat} {ea : Int} {gb : Bool} {Ab : Option Addr} {mb cb : Nat} {eb : Int}
theorem HoldE3.below (h : HoldE3 w g1 A1 n1 c1 xs e1 g2 A2 n2 c2 ys e2 ga Aa ma ca ea gb Ab mb cb eb u) (hb : Below u.heap.size u u') : HoldE3 w g1 A1 n1 c1 xs e1 g2 A2 n2 c2 ys e2 ga Aa ma ca ea gb Ab mb cb eb u' :=
  ⟨h.1.below hb, h.2.1.below hb, h.2.2.1.below hb, h.2.2.2.1.below hb, h.2.2.2.2.1.below hb, h.2.2.2.2.2.1.below hb, h.2.2.2.2.2.2.trans (hb.mono h.2.2.2.2.2.2.size)⟩
theorem HoldE3.start (hA : Lim w A1 n1 c1 xs) (hB : Lim w A2 n2 c2 ys) (hT : Tab w) : HoldE3 w g1 A1 n1 c1 xs e1 g2 A2 n2 c2 ys e2 false none 0 0 0 false none 0 0 0 (((w.alloc (.cells #[.bool g1, .slice A1 n1 c1, .int .i64 e1, .bool g2, .slice A2 n2 c2, .int .i64 e2] 34)).alloc (.cells #[.bool false, .slice none 0 0, .int .i64 0] 32)).alloc (.cells #[.bool false, .slice none 0 0, .int .i64 0] 32)) := by
  obtain ⟨u1, hu1⟩ : ∃ u1, w.alloc (.cells #[.bool g1, .slice A1 n1 c1, .int .i64 e1, .bool g2, .slice A2 n2 c2, .int .i64 e2] 34) = u1 := ⟨_, rfl⟩
  have a1 : Below w.heap.size w u1 := hu1 ▸ below1 _ _
  have s1 : u1.heap.size = w.heap.size + 1 := by rw [← hu1, World.size_alloc]
  have i1 : Ib u1 w.heap.size g1 A1 n1 c1 e1 g2 A2 n2 c2 e2 := hu1 ▸ Ib.new _ _ _ _ _ _ _ _ _ _ _
  rw [hu1]
  have a2 := below1 u1 (.cells #[.bool false, .slice none 0 0, .int .i64 0] 32)
  have b2 := Bd.new u1 32 false none 0 0 0
  obtain ⟨u2, hu2⟩ : ∃ u2, u1.alloc (.cells #[.bool false, .slice none 0 0, .int .i64 0] 32) = u2 := ⟨_, rfl⟩
  have s2 : u2.heap.size = w.heap.size + 1 + 1 := by rw [← hu2, World.size_alloc, s1]
  rw [hu2] at a2 b2 ⊢
  have a3 := below1 u2 (.cells #[.bool false, .slice none 0 0, .int .i64 0] 32)
  have b3 := Bd.new u2 32 false none 0 0 0
  rw [s1] at b2
  rw [s2] at b3
  have t1 := a1.trans (a2.mono a1.size)
  exact ⟨(i1.below a2).below a3, b2.below a3, b3, ((hT.below a1).below a2).below a3, ((hA.below a1).below a2).below a3, ((hB.below a1).below a2).below a3, t1.trans (a3.mono t1.size)⟩
theorem HoldE3.put1 (h : HoldE3 w g1 A1 n1 c1 xs e1 g2 A2 n2 c2 ys e2 ga Aa ma ca ea gb Ab mb cb eb u) (g' : Bool) (A' : Option Addr) (n' c' : Nat) (e' : Int) : HoldE3 w g1 A1 n1 c1 xs e1 g2 A2 n2 c2 ys e2 g' A' n' c' e' gb Ab mb cb eb (World.put u (w.heap.size + 1) g' A' n' c' e') :=
  ⟨h.1.other (by omega) _ _ _ _ _, h.2.1.put _ _ _ _ _, h.2.2.1.other (by omega) _ _ _ _ _, h.2.1.tab h.2.2.2.1 _ _ _ _ _, h.2.1.lim h.2.2.2.2.1 _ _ _ _ _, h.2.1.lim h.2.2.2.2.2.1 _ _ _ _ _, below_put h.2.2.2.2.2.2 (by omega) _ _ _ _ _⟩
theorem HoldE3.put2 (h : HoldE3 w g1 A1 n1 c1 xs e1 g2 A2 n2 c2 ys e2 ga Aa ma ca ea gb Ab mb cb eb u) (g' : Bool) (A' : Option Addr) (n' c' : Nat) (e' : Int) : HoldE3 w g1 A1 n1 c1 xs e1 g2 A2 n2 c2 ys e2 ga Aa ma ca ea g' A' n' c' e' (World.put u (w.heap.size + 1 + 1) g' A' n' c' e') :=
  ⟨h.1.other (by omega) _ _ _ _ _, h.2.1.other (by omega) _ _ _ _ _, h.2.2.1.put _ _ _ _ _, h.2.2.1.tab h.2.2.2.1 _ _ _ _ _, h.2.2.1.lim h.2.2.2.2.1 _ _ _ _ _, h.2.2.1.lim h.2.2.2.2.2.1 _ _ _ _ _, below_put h.2.2.2.2.2.2 (by omega) _ _ _ _ _⟩
theorem HoldE3.cells (h : HoldE3 w g1 A1 n1 c1 xs e1 g2 A2 n2 c2 ys e2 ga Aa ma ca ea gb Ab mb cb eb u) : Six u (w.heap.size + 1) ga Aa ma ca ea (w.heap.size + 1 + 1) gb Ab mb cb eb := h.2.1.six h.2.2.1
end

/-- .. and both bare ends' lists. -/
def HoldE4 (w : World) (g1 : Bool) (A1 : Option Addr) (n1 c1 : Nat) (xs : List Nat) (e1 : Int) (g2 : Bool) (A2 : Option Addr) (n2 c2 : Nat) (ys : List Nat) (e2 : Int) (ga : Bool) (Aa : Option Addr) (ma ca : Nat) (zs : List Nat) (ea : Int) (gb : Bool) (Ab : Option Addr) (mb cb : Nat) (us : List Nat) (eb : Int) (u : World) : Prop :=
  HoldE3 w g1 A1 n1 c1 xs e1 g2 A2 n2 c2 ys e2 ga Aa ma ca ea gb Ab mb cb eb u ∧ Lim u Aa ma ca zs ∧ Lim u Ab mb cb us
section
variable {w u u' : World} {g1 : Bool} {A1 : Option Addr} {n1 c1 : Nat} {xs : List Nat} {e1 : Int} {g2 : Bool} {A2 : Option Addr} {n2 c2 : Nat} {ys : List Nat} {e2 : Int} {ga : Bool} {Aa : Option Addr} {ma ca : Nat} {zs us : List Nat} {ea : Int} {gb : Bool} {Ab : Option Addr} {mb cb : Nat} {eb : Int}
theorem HoldE4.below (h : HoldE4 w g1 A1 n1 c1 xs e1 g2 A2 n2 c2 ys e2 ga Aa ma ca zs ea gb Ab mb cb us eb u) (hb : Below u.heap.size u u') : HoldE4 w g1 A1 n1 c1 xs e1 g2 A2 n2 c2 ys e2 ga Aa ma ca zs ea gb Ab mb cb us eb u' := ⟨h.1.below hb, h.2.1.below hb, h.2.2.below hb⟩
theorem HoldE4.cells (h : HoldE4 w g1 A1 n1 c1 xs e1 g2 A2 n2 c2 ys e2 ga Aa ma ca zs ea gb Ab mb cb us eb u) : Six u (w.heap.size + 1) ga Aa ma ca ea (w.heap.size + 1 + 1) gb Ab mb cb eb := h.1.cells
theorem HoldE4.put1 (h : HoldE4 w g1 A1 n1 c1 xs e1 g2 A2 n2 c2 ys e2 ga Aa ma ca zs ea gb Ab mb cb us eb u) : HoldE4 w g1 A1 n1 c1 xs e1 g2 A2 n2 c2 ys e2 ga Aa ma ca zs ea gb Ab mb cb us eb (World.put u (w.heap.size + 1) ga Aa ma ca ea) :=
  ⟨h.1.put1 _ _ _ _ _, h.1.2.1.lim h.2.1 _ _ _ _ _, h.1.2.1.lim h.2.2 _ _ _ _ _⟩
theorem HoldE4.put2 (h : HoldE4 w g1 A1 n1 c1 xs e1 g2 A2 n2 c2 ys e2 ga Aa ma ca zs ea gb Ab mb cb us eb u) : HoldE4 w g1 A1 n1 c1 xs e1 g2 A2 n2 c2 ys e2 ga Aa ma ca zs ea gb Ab mb cb us eb (World.put u (w.heap.size + 1 + 1) gb Ab mb cb eb) :=
  ⟨h.1.put2 _ _ _ _ _, h.1.2.2.1.lim h.2.1 _ _ _ _ _, h.1.2.2.1.lim h.2.2 _ _ _ _ _⟩
end

/-- An interval that may be split. -/
def EndsOk (g1 : Bool) (V1 : Nat) (e1 : Int) (g2 : Bool) (V2 : Nat) (e2 : Int) (lo hi : Dy) : Prop := mk g1 V1 e1 = some lo ∧ mk g2 V2 e2 = some hi ∧ Mid lo ∧ Mid hi ∧ dw lo.neg lo.V lo.e ≤ dw hi.neg hi.V hi.e
/-- What exps.ends tells. -/
def EndsTold (w : World) (g1 : Bool) (V1 : Nat) (e1 : Int) (g2 : Bool) (V2 : Nat) (e2 : Int) (e : Ending) (w' : World) : Prop :=
  ∃ ga Aa ma ca zs ea gb Ab mb cb us eb ok, e = .returned (.tuple #[.agg #[.bool ga, .slice Aa ma ca, .int .i64 ea], .agg #[.bool gb, .slice Ab mb cb, .int .i64 eb], .bool ok]) ∧ Lim w' Aa ma ca zs ∧ Lim w' Ab mb cb us ∧ Bare zs ∧ Bare us ∧ Below w.heap.size w w' ∧
    ((ok = true ∧ EndsOk g1 V1 e1 g2 V2 e2 ⟨ga, val zs, ea⟩ ⟨gb, val us, eb⟩) ∨ (ok = false ∧ ¬ ∃ lo hi, EndsOk g1 V1 e1 g2 V2 e2 lo hi))
theorem HoldE4.tell {w u : World} {g1 : Bool} {A1 : Option Addr} {n1 c1 : Nat} {xs : List Nat} {e1 : Int} {g2 : Bool} {A2 : Option Addr} {n2 c2 : Nat} {ys : List Nat} {e2 : Int} {dl dh : Dy} {Aa : Option Addr} {ma ca : Nat} {zs us : List Nat} {Ab : Option Addr} {mb cb : Nat} {ok : Bool} {V1 V2 : Nat}
    (h : HoldE4 w g1 A1 n1 c1 xs e1 g2 A2 n2 c2 ys e2 dl.neg Aa ma ca zs dl.e dh.neg Ab mb cb us dh.e u) (hz : (Bare zs ∧ val zs = dl.V) ∧ Bare us ∧ val us = dh.V) (hP : (ok = true ∧ EndsOk g1 V1 e1 g2 V2 e2 dl dh) ∨ (ok = false ∧ ¬ ∃ lo hi, EndsOk g1 V1 e1 g2 V2 e2 lo hi)) :
    EndsTold w g1 V1 e1 g2 V2 e2 (.returned (.tuple #[.agg #[.bool dl.neg, .slice Aa ma ca, .int .i64 dl.e], .agg #[.bool dh.neg, .slice Ab mb cb, .int .i64 dh.e], .bool ok])) u := by
  refine ⟨dl.neg, Aa, ma, ca, zs, dl.e, dh.neg, Ab, mb, cb, us, dh.e, ok, rfl, h.2.1, h.2.2, hz.1.1, hz.2.1, h.1.2.2.2.2.2.2, ?_⟩
  rw [hz.1.2, hz.2.2]
  exact hP

set_option maxHeartbeats 2000000 in
set_option maxRecDepth 20000 in
theorem ends_no1 (g1 : Bool) (A1 : Option Addr) (n1 c1 : Nat) (xs : List Nat) (e1 : Int) (g2 : Bool) (A2 : Option Addr) (n2 c2 : Nat) (ys : List Nat) (e2 : Int) (w : World) (hA : Lim w A1 n1 c1 xs) (hB : Lim w A2 n2 c2 ys) (hn1 : n1 ≤ 4294967296) (_hn2 : n2 ≤ 4294967296) (hT : Tab w) (h1 : mk g1 (val xs) e1 = none) :
    Calls Tryz.prog 34 #[.agg #[.bool g1, .slice A1 n1 c1, .int .i64 e1, .bool g2, .slice A2 n2 c2, .int .i64 e2]] w (EndsTold w g1 (val xs) e1 g2 (val ys) e2) := by
  have k0 := HoldE3.start (g1 := g1) (e1 := e1) (g2 := g2) (e2 := e2) hA hB hT
  have H1 := dbare_any g1 A1 n1 c1 xs e1 _ k0.2.2.2.2.1 hn1 k0.2.2.2.1
  rw [h1] at H1
  replace H1 := Lib.hid H1
  have K0 := Lib.hid k0
  have x0 := k0.1.x0
  have x1 := k0.1.x1
  have x2 := k0.1.x2

  have HN : Hid (¬ ∃ lo hi, EndsOk g1 (val xs) e1 g2 (val ys) e2 lo hi) := fun ⟨lo, hi, h, _⟩ => by rw [h1] at h; cases h
  clear hA hB hT k0 h1
  go_enter Tryz.func34, Tryz.ntmps34
  go_wp2_with fail
  refine H1.out.mono ?_
  rintro e w1 ⟨ga, Aa, ma, ca, zs, ea, r1, rfl, hm1, hl1, hb1, ⟨rfl, rfl, hz1, rfl⟩, hB1⟩
  clear x0 x1 x2 H1
  replace K0 := Lib.hid (K0.out.below hB1)
  have f1 := K0.out.2.1.fz
  have p0 := K0.out.2.1.c0
  have p1 := K0.out.2.1.c1
  have p2 := K0.out.2.1.c2
  have f2 := K0.out.2.2.1.fz
  have q0 := K0.out.2.2.1.c0
  have q1 := K0.out.2.2.1.c1
  have q2 := K0.out.2.2.1.c2
  have k3 := ((K0.out.put1 false Aa ma ca 0).put1 false none 0 0 0).put2 false none 0 0 0
  have z0 := k3.cells
  have Hfin : Hid (EndsTold w g1 (val xs) e1 g2 (val ys) e2 (.returned (.tuple #[.agg #[.bool false, .slice none 0 0, .int .i64 0], .agg #[.bool false, .slice none 0 0, .int .i64 0], .bool false])) (World.put (World.put (World.put w1 (w.heap.size + 1) false Aa ma ca 0) (w.heap.size + 1) false none 0 0 0) (w.heap.size + 1 + 1) false none 0 0 0)) :=
    ⟨false, none, 0, 0, [], 0, false, none, 0, 0, [], 0, false, rfl, Lim.nil _ _ _, Lim.nil _ _ _, rfl, rfl, k3.2.2.2.2.2.2, Or.inr ⟨rfl, HN.out⟩⟩
  clear K0 hl1 hb1 hz1 hB1 HN k3
  go_wp2
  exact bodyPost_ret (v := .tuple #[.agg #[.bool false, .slice none 0 0, .int .i64 0], .agg #[.bool false, .slice none 0 0, .int .i64 0], .bool false]) (by simp [results, Tryz.results34, go_sem, z0.1, z0.2.1, z0.2.2.1, z0.2.2.2.1, z0.2.2.2.2.1, z0.2.2.2.2.2]) rfl Hfin.out

set_option maxHeartbeats 2000000 in
set_option maxRecDepth 20000 in
theorem ends_no2 (g1 : Bool) (A1 : Option Addr) (n1 c1 : Nat) (xs : List Nat) (e1 : Int) (g2 : Bool) (A2 : Option Addr) (n2 c2 : Nat) (ys : List Nat) (e2 : Int) (dl : Dy) (w : World) (hA : Lim w A1 n1 c1 xs) (hB : Lim w A2 n2 c2 ys) (hn1 : n1 ≤ 4294967296) (hn2 : n2 ≤ 4294967296) (hT : Tab w) (h1 : mk g1 (val xs) e1 = some dl) (h2 : mk g2 (val ys) e2 = none) :
    Calls Tryz.prog 34 #[.agg #[.bool g1, .slice A1 n1 c1, .int .i64 e1, .bool g2, .slice A2 n2 c2, .int .i64 e2]] w (EndsTold w g1 (val xs) e1 g2 (val ys) e2) := by
  have k0 := HoldE3.start (g1 := g1) (e1 := e1) (g2 := g2) (e2 := e2) hA hB hT
  have H1 := dbare_any g1 A1 n1 c1 xs e1 _ k0.2.2.2.2.1 hn1 k0.2.2.2.1
  rw [h1] at H1
  replace H1 := Lib.hid H1
  have K0 := Lib.hid k0
  have x0 := k0.1.x0
  have x1 := k0.1.x1
  have x2 := k0.1.x2

  have HN : Hid (¬ ∃ lo hi, EndsOk g1 (val xs) e1 g2 (val ys) e2 lo hi) := fun ⟨lo, hi, _, h, _⟩ => by rw [h2] at h; cases h
  have h2 := Lib.hid h2
  clear hA hB hT k0 h1
  go_enter Tryz.func34, Tryz.ntmps34
  go_wp2_with fail
  refine H1.out.mono ?_
  rintro e w1 ⟨ga, Aa, ma, ca, zs, ea, r1, rfl, hm1, hl1, hb1, ⟨rfl, rfl, hz1, rfl⟩, hB1⟩
  clear x0 x1 x2 H1
  replace K0 := Lib.hid (K0.out.below hB1)
  have f1 := K0.out.2.1.fz
  have p0 := K0.out.2.1.c0
  have p1 := K0.out.2.1.c1
  have p2 := K0.out.2.1.c2
  have HLa : Hid (Lim w1 Aa ma ca zs ∧ Bare zs ∧ val zs = dl.V) := ⟨hl1, hb1, hz1⟩
  have k1 := K0.out.put1 dl.neg Aa ma ca dl.e
  have x3 := k1.1.x3
  have x4 := k1.1.x4
  have x5 := k1.1.x5
  have H2 := dbare_any g2 A2 n2 c2 ys e2 _ k1.2.2.2.2.2.1 hn2 k1.2.2.2.1
  rw [h2.out] at H2
  replace H2 := Lib.hid H2
  have HLa' := Lib.hid (K0.out.2.1.lim HLa.out.1 dl.neg Aa ma ca dl.e)
  have K1 := Lib.hid k1
  clear hl1 hb1 hz1 hB1 K0 k1 h2
  go_wp2_with fail
  refine H2.out.mono ?_
  rintro e w2 ⟨gb, Ab, mb, cb, us, eb, r2, rfl, hm2, hl2, hb2, ⟨rfl, rfl, hz2, rfl⟩, hB2⟩
  clear x3 x4 x5 f1 p0 p1 p2 H2
  replace K1 := Lib.hid (K1.out.below hB2)
  have f1 := K1.out.2.1.fz
  have p0 := K1.out.2.1.c0
  have p1 := K1.out.2.1.c1
  have p2 := K1.out.2.1.c2
  have f2 := K1.out.2.2.1.fz
  have q0 := K1.out.2.2.1.c0
  have q1 := K1.out.2.2.1.c1
  have q2 := K1.out.2.2.1.c2
  have k3 := ((K1.out.put2 false Ab mb cb 0).put1 false none 0 0 0).put2 false none 0 0 0
  have z0 := k3.cells
  have Hfin : Hid (EndsTold w g1 (val xs) e1 g2 (val ys) e2 (.returned (.tuple #[.agg #[.bool false, .slice none 0 0, .int .i64 0], .agg #[.bool false, .slice none 0 0, .int .i64 0], .bool false])) (World.put (World.put (World.put w2 (w.heap.size + 1 + 1) false Ab mb cb 0) (w.heap.size + 1) false none 0 0 0) (w.heap.size + 1 + 1) false none 0 0 0)) :=
    ⟨false, none, 0, 0, [], 0, false, none, 0, 0, [], 0, false, rfl, Lim.nil _ _ _, Lim.nil _ _ _, rfl, rfl, k3.2.2.2.2.2.2, Or.inr ⟨rfl, HN.out⟩⟩
  clear K1 HLa HLa' hl2 hb2 hz2 hB2 HN k3
  go_wp2
  exact bodyPost_ret (v := .tuple #[.agg #[.bool false, .slice none 0 0, .int .i64 0], .agg #[.bool false, .slice none 0 0, .int .i64 0], .bool false]) (by simp [results, Tryz.results34, go_sem, z0.1, z0.2.1, z0.2.2.1, z0.2.2.2.1, z0.2.2.2.2.1, z0.2.2.2.2.2]) rfl Hfin.out

set_option maxHeartbeats 2000000 in
set_option maxRecDepth 20000 in
theorem ends_midA (g1 : Bool) (A1 : Option Addr) (n1 c1 : Nat) (xs : List Nat) (e1 : Int) (g2 : Bool) (A2 : Option Addr) (n2 c2 : Nat) (ys : List Nat) (e2 : Int) (dl dh : Dy) (w : World) (hA : Lim w A1 n1 c1 xs) (hB : Lim w A2 n2 c2 ys) (hn1 : n1 ≤ 4294967296) (hn2 : n2 ≤ 4294967296) (hT : Tab w) (h1 : mk g1 (val xs) e1 = some dl) (h2 : mk g2 (val ys) e2 = some dh) (h3 : ¬ Mid dl) :
    Calls Tryz.prog 34 #[.agg #[.bool g1, .slice A1 n1 c1, .int .i64 e1, .bool g2, .slice A2 n2 c2, .int .i64 e2]] w (EndsTold w g1 (val xs) e1 g2 (val ys) e2) := by
  have k0 := HoldE3.start (g1 := g1) (e1 := e1) (g2 := g2) (e2 := e2) hA hB hT
  have H1 := dbare_any g1 A1 n1 c1 xs e1 _ k0.2.2.2.2.1 hn1 k0.2.2.2.1
  rw [h1] at H1
  replace H1 := Lib.hid H1
  have K0 := Lib.hid k0
  have x0 := k0.1.x0
  have x1 := k0.1.x1
  have x2 := k0.1.x2

  have HN : Hid (¬ ∃ lo hi, EndsOk g1 (val xs) e1 g2 (val ys) e2 lo hi) := fun ⟨lo, hi, h, _, h5, _⟩ => by rw [h1] at h; cases h; exact h3 h5
  have h2 := Lib.hid h2
  have HF : Hid (Fine dl ∧ Fine dh) := ⟨(mk_fine h1).1, (mk_fine h2.out).1⟩
  have HM := Lib.hid h3
  clear hA hB hT k0 h1 h3
  go_enter Tryz.func34, Tryz.ntmps34
  go_wp2_with fail
  refine H1.out.mono ?_
  rintro e w1 ⟨ga, Aa, ma, ca, zs, ea, r1, rfl, hm1, hl1, hb1, ⟨rfl, rfl, hz1, rfl⟩, hB1⟩
  clear x0 x1 x2 H1
  replace K0 := Lib.hid (K0.out.below hB1)
  have f1 := K0.out.2.1.fz
  have p0 := K0.out.2.1.c0
  have p1 := K0.out.2.1.c1
  have p2 := K0.out.2.1.c2
  have HLa : Hid (Lim w1 Aa ma ca zs ∧ Bare zs ∧ val zs = dl.V) := ⟨hl1, hb1, hz1⟩
  have k1 := K0.out.put1 dl.neg Aa ma ca dl.e
  have x3 := k1.1.x3
  have x4 := k1.1.x4
  have x5 := k1.1.x5
  have H2 := dbare_any g2 A2 n2 c2 ys e2 _ k1.2.2.2.2.2.1 hn2 k1.2.2.2.1
  rw [h2.out] at H2
  replace H2 := Lib.hid H2
  have HLa' := Lib.hid (K0.out.2.1.lim HLa.out.1 dl.neg Aa ma ca dl.e)
  have K1 := Lib.hid k1
  clear hl1 hb1 hz1 hB1 K0 k1 h2
  go_wp2_with fail
  refine H2.out.mono ?_
  rintro e w2 ⟨gb, Ab, mb, cb, us, eb, r2, rfl, hm2, hl2, hb2, ⟨rfl, rfl, hz2, rfl⟩, hB2⟩
  clear x3 x4 x5 f1 p0 p1 p2 H2
  replace K1 := Lib.hid (K1.out.below hB2)
  have f1 := K1.out.2.1.fz
  have p0 := K1.out.2.1.c0
  have p1 := K1.out.2.1.c1
  have p2 := K1.out.2.1.c2
  have f2 := K1.out.2.2.1.fz
  have q0 := K1.out.2.2.1.c0
  have q1 := K1.out.2.2.1.c1
  have q2 := K1.out.2.2.1.c2
  have k2 := K1.out.put2 dh.neg Ab mb cb dh.e
  have K0 : Hid (HoldE4 w g1 A1 n1 c1 xs e1 g2 A2 n2 c2 ys e2 dl.neg Aa ma ca zs dl.e dh.neg Ab mb cb us dh.e (World.put w2 (w.heap.size + 1 + 1) dh.neg Ab mb cb dh.e)) := ⟨k2, K1.out.2.2.1.lim (HLa'.out.below hB2) _ _ _ _ _, K1.out.2.2.1.lim hl2 _ _ _ _ _⟩
  replace K0 := Lib.hid (K0.out.below (below_drew _))
  have HZ : Hid ((Bare zs ∧ val zs = dl.V) ∧ Bare us ∧ val us = dh.V) := ⟨HLa.out.2, hb2, hz2⟩
  have hma : ma ≤ 4294967296 := by omega
  have hmb : mb ≤ 4294967296 := by omega
  have C1 : Hid (∀ u, HoldE4 w g1 A1 n1 c1 xs e1 g2 A2 n2 c2 ys e2 dl.neg Aa ma ca zs dl.e dh.neg Ab mb cb us dh.e u → Calls Tryz.prog 70 #[.agg #[.bool dl.neg, .slice Aa ma ca, .int .i64 dl.e]] u fun e w' => e = .returned (.bool false) ∧ Below u.heap.size u w') := fun u hu => isend_l false dl.neg Aa ma ca zs dl.e u hu.2.1 hma (by rw [HZ.out.1.2]; exact HF.out.1) (by show _ = _; rw [HZ.out.1.2]; exact decide_eq_false HM.out)
  clear k2 hl2 hb2 hz2 hB2 K1 HLa HLa' hm1 hm2 f1 p0 p1 p2 HM HF h2
  go_wp2_with fail
  clear f2 q0 q1 q2
  refine wp_region_noPanic ?_
  refine wp_region_held_drew (S := fun w' => w'.cell? ⟨w.heap.size + 1, 0, none⟩ = some (.bool dl.neg) ∧ w'.cell? ⟨w.heap.size + 1, 1, none⟩ = some (.slice Aa ma ca) ∧ w'.cell? ⟨w.heap.size + 1, 2, none⟩ = some (.int .i64 dl.e) ∧ w'.cell? ⟨w.heap.size + 1 + 1, 0, none⟩ = some (.bool dh.neg) ∧ w'.cell? ⟨w.heap.size + 1 + 1, 1, none⟩ = some (.slice Ab mb cb) ∧ w'.cell? ⟨w.heap.size + 1 + 1, 2, none⟩ = some (.int .i64 dh.e)) (by kernel_rfl) K0.out.cells (fun hHeld => ?_)
  refine wpAnyH_take (i := 0) (v := ?_) rfl (by kernel_rfl) (by kernel_rfl) (by kernel_rfl) (fun _ _ _ h => h) (Or.inl ⟨by rfl, ?_⟩) hHeld ?_
  rotate_left
  · intro w' hSw
    (try dsimp only at hSw)
    go_simp
    all_goals (with_reducible rfl)
  simp only [List.getElem_toArray, List.getElem_cons_zero, Act.put, List.setIfInBounds_toArray, List.set_cons_zero, List.set_cons_succ]
  refine wpAnyH_take (i := 1) (v := ?_) rfl (by kernel_rfl) (by kernel_rfl) (by kernel_rfl) (fun _ _ _ h => h) (Or.inl ⟨by rfl, ?_⟩) hHeld ?_
  rotate_left
  · intro w' hSw
    (try dsimp only at hSw)
    go_simp
    all_goals (with_reducible rfl)
  simp only [List.getElem_toArray, List.getElem_cons_succ, List.getElem_cons_zero, Act.put, List.setIfInBounds_toArray, List.set_cons_zero, List.set_cons_succ]
  refine wpAnyH_take (i := 2) (v := ?_) rfl (by kernel_rfl) (by kernel_rfl) (by kernel_rfl) (fun _ _ _ h => h) (Or.inl ⟨by rfl, ?_⟩) hHeld ?_
  rotate_left
  · intro w' hSw
    (try dsimp only at hSw)
    go_simp
    all_goals (with_reducible rfl)
  simp only [List.getElem_toArray, List.getElem_cons_succ, List.getElem_cons_zero, Act.put, List.setIfInBounds_toArray, List.set_cons_zero, List.set_cons_succ]
  refine wpAnyH_ready (rs := [3]) (by kernel_rfl) (by simp) ?_
  refine AllReadyH.cons rfl (fun K' hK' => ?_) AllReadyH.nil
  go_simp
  refine (C1.out _ K0.out).mono ?_
  rintro e ua ⟨rfl, hB⟩
  replace K0 := Lib.hid (K0.out.below hB)
  refine hK'.out _ _ ?_ (fun hHeld => ?_)
  · exact K0.out.cells
  clear hK' K' hB C1
  refine wpAnyH_take (i := 4) (v := ?_) rfl (by kernel_rfl) (by kernel_rfl) (by kernel_rfl) (fun _ _ _ h => h) (Or.inl ⟨by rfl, ?_⟩) hHeld ?_
  rotate_left
  · intro w' hSw
    (try dsimp only at hSw)
    go_simp
    all_goals (with_reducible rfl)
  simp only [List.getElem_toArray, List.getElem_cons_succ, List.getElem_cons_zero, Act.put, List.setIfInBounds_toArray, List.set_cons_zero, List.set_cons_succ]
  refine wpAnyH_take (i := 5) (v := undef) rfl (by kernel_rfl) (by kernel_rfl) (by kernel_rfl) (fun _ _ _ h => h) (Or.inr ⟨by rfl, rfl⟩) hHeld ?_
  simp only [List.getElem_toArray, List.getElem_cons_succ, List.getElem_cons_zero, Act.put, List.setIfInBounds_toArray, List.set_cons_zero, List.set_cons_succ]
  refine wpAnyH_take (i := 6) (v := undef) rfl (by kernel_rfl) (by kernel_rfl) (by kernel_rfl) (fun _ _ _ h => h) (Or.inr ⟨by rfl, rfl⟩) hHeld ?_
  simp only [List.getElem_toArray, List.getElem_cons_succ, List.getElem_cons_zero, Act.put, List.setIfInBounds_toArray, List.set_cons_zero, List.set_cons_succ]
  refine wpAnyH_take (i := 7) (v := ?_) rfl (by kernel_rfl) (by kernel_rfl) (by kernel_rfl) (fun _ _ _ h => h) (Or.inl ⟨by rfl, ?_⟩) hHeld ?_
  rotate_left
  · intro w' hSw
    (try dsimp only at hSw)
    go_simp
    all_goals (with_reducible rfl)
  simp only [List.getElem_toArray, List.getElem_cons_succ, List.getElem_cons_zero, Act.put, List.setIfInBounds_toArray, List.set_cons_zero, List.set_cons_succ]
  refine wpAnyH_take (i := 8) (v := ?_) rfl (by kernel_rfl) (by kernel_rfl) (by kernel_rfl) (fun _ _ _ h => h) (Or.inl ⟨by rfl, ?_⟩) hHeld ?_
  rotate_left
  · intro w' hSw
    (try dsimp only at hSw)
    go_simp
    all_goals (with_reducible rfl)
  simp only [List.getElem_toArray, List.getElem_cons_succ, List.getElem_cons_zero, Act.put, List.setIfInBounds_toArray, List.set_cons_zero, List.set_cons_succ]
  refine wpAnyH_take (i := 9) (v := undef) rfl (by kernel_rfl) (by kernel_rfl) (by kernel_rfl) (fun _ _ _ h => h) (Or.inr ⟨by rfl, rfl⟩) hHeld ?_
  simp only [List.getElem_toArray, List.getElem_cons_succ, List.getElem_cons_zero, Act.put, List.setIfInBounds_toArray, List.set_cons_zero, List.set_cons_succ]
  refine wpAnyH_take (i := 10) (v := undef) rfl (by kernel_rfl) (by kernel_rfl) (by kernel_rfl) (fun _ _ _ h => h) (Or.inr ⟨by rfl, rfl⟩) hHeld ?_
  simp only [List.getElem_toArray, List.getElem_cons_succ, List.getElem_cons_zero, Act.put, List.setIfInBounds_toArray, List.set_cons_zero, List.set_cons_succ]
  refine wpAnyH_take (i := 11) (v := undef) rfl (by kernel_rfl) (by kernel_rfl) (by kernel_rfl) (fun _ _ _ h => h) (Or.inr ⟨by rfl, rfl⟩) hHeld ?_
  simp only [List.getElem_toArray, List.getElem_cons_succ, List.getElem_cons_zero, Act.put, List.setIfInBounds_toArray, List.set_cons_zero, List.set_cons_succ]
  refine wpAnyH_take (i := 12) (v := undef) rfl (by kernel_rfl) (by kernel_rfl) (by kernel_rfl) (fun _ _ _ h => h) (Or.inr ⟨by rfl, rfl⟩) hHeld ?_
  simp only [List.getElem_toArray, List.getElem_cons_succ, List.getElem_cons_zero, Act.put, List.setIfInBounds_toArray, List.set_cons_zero, List.set_cons_succ]
  refine wpAnyH_take (i := 13) (v := ?_) rfl (by kernel_rfl) (by kernel_rfl) (by kernel_rfl) (fun _ _ _ h => h) (Or.inl ⟨by rfl, ?_⟩) hHeld ?_
  rotate_left
  · intro w' hSw
    (try dsimp only at hSw)
    go_simp
    all_goals (with_reducible rfl)
  simp only [List.getElem_toArray, List.getElem_cons_succ, List.getElem_cons_zero, Act.put, List.setIfInBounds_toArray, List.set_cons_zero, List.set_cons_succ]
  have y0 := K0.out.cells.1
  have y1 := K0.out.cells.2.1
  have y2 := K0.out.cells.2.2.1
  have y3 := K0.out.cells.2.2.2.1
  have y4 := K0.out.cells.2.2.2.2.1
  have y5 := K0.out.cells.2.2.2.2.2
  have f1 := K0.out.1.2.1.fz
  have f2 := K0.out.1.2.2.1.fz
  refine wpAnyH_ready (rs := [14]) (by kernel_rfl) (by simp) ?_
  refine AllReadyH.cons rfl (fun K' hK' => ?_) AllReadyH.nil
  go_simp
  refine hK'.out _ _ ?_ (fun hHeld => ?_)
  · exact K0.out.put1.cells
  clear hK' K' y0 y1 y2 y3 y4 y5 f1 f2
  replace K0 := Lib.hid K0.out.put1
  have y0 := K0.out.cells.1
  have y1 := K0.out.cells.2.1
  have y2 := K0.out.cells.2.2.1
  have y3 := K0.out.cells.2.2.2.1
  have y4 := K0.out.cells.2.2.2.2.1
  have y5 := K0.out.cells.2.2.2.2.2
  have f1 := K0.out.1.2.1.fz
  have f2 := K0.out.1.2.2.1.fz
  refine wpAnyH_ready (rs := [15]) (by kernel_rfl) (by simp) ?_
  refine AllReadyH.cons rfl (fun K' hK' => ?_) AllReadyH.nil
  go_simp
  refine hK'.out _ _ ?_ (fun hHeld => ?_)
  · exact K0.out.put2.cells
  clear hK' K' y0 y1 y2 y3 y4 y5 f1 f2
  replace K0 := Lib.hid K0.out.put2
  refine wpAnyH_take (i := 16) (v := ?_) rfl (by kernel_rfl) (by kernel_rfl) (by kernel_rfl) (fun _ _ _ h => h) (Or.inl ⟨by rfl, ?_⟩) hHeld ?_
  rotate_left
  · intro w' hSw
    (try dsimp only at hSw)
    go_simp
    all_goals (with_reducible rfl)
  simp only [List.getElem_toArray, List.getElem_cons_succ, List.getElem_cons_zero, Act.put, List.setIfInBounds_toArray, List.set_cons_zero, List.set_cons_succ]
  refine wpAnyH_done (by kernel_rfl) ?_ _
  refine NoPanic.normal ?_
  have Hfin := Lib.hid (K0.out.tell HZ.out (ok := false) (Or.inr ⟨rfl, HN.out⟩))
  have y := K0.out.cells
  obtain ⟨y0, y1, y2, y3, y4, y5⟩ := y
  clear K0 hHeld HN HZ
  go_wp2
  exact bodyPost_ret (v := .tuple #[.agg #[.bool dl.neg, .slice Aa ma ca, .int .i64 dl.e], .agg #[.bool dh.neg, .slice Ab mb cb, .int .i64 dh.e], .bool false]) (by simp [results, Tryz.results34, go_sem, y0, y1, y2, y3, y4, y5]) rfl Hfin.out

set_option maxHeartbeats 2000000 in
set_option maxRecDepth 20000 in
theorem ends_midB (g1 : Bool) (A1 : Option Addr) (n1 c1 : Nat) (xs : List Nat) (e1 : Int) (g2 : Bool) (A2 : Option Addr) (n2 c2 : Nat) (ys : List Nat) (e2 : Int) (dl dh : Dy) (w : World) (hA : Lim w A1 n1 c1 xs) (hB : Lim w A2 n2 c2 ys) (hn1 : n1 ≤ 4294967296) (hn2 : n2 ≤ 4294967296) (hT : Tab w) (h1 : mk g1 (val xs) e1 = some dl) (h2 : mk g2 (val ys) e2 = some dh) (h3 : Mid dl) (h4 : ¬ Mid dh) :
    Calls Tryz.prog 34 #[.agg #[.bool g1, .slice A1 n1 c1, .int .i64 e1, .bool g2, .slice A2 n2 c2, .int .i64 e2]] w (EndsTold w g1 (val xs) e1 g2 (val ys) e2) := by
  have k0 := HoldE3.start (g1 := g1) (e1 := e1) (g2 := g2) (e2 := e2) hA hB hT
  have H1 := dbare_any g1 A1 n1 c1 xs e1 _ k0.2.2.2.2.1 hn1 k0.2.2.2.1
  rw [h1] at H1
  replace H1 := Lib.hid H1
  have K0 := Lib.hid k0
  have x0 := k0.1.x0
  have x1 := k0.1.x1
  have x2 := k0.1.x2

  have HN : Hid (¬ ∃ lo hi, EndsOk g1 (val xs) e1 g2 (val ys) e2 lo hi) := fun ⟨lo, hi, _, h, _, h5, _⟩ => by rw [h2] at h; cases h; exact h4 h5
  have h2 := Lib.hid h2
  have HF : Hid (Fine dl ∧ Fine dh) := ⟨(mk_fine h1).1, (mk_fine h2.out).1⟩
  have HM := Lib.hid (And.intro h3 h4)
  clear hA hB hT k0 h1 h3 h4
  go_enter Tryz.func34, Tryz.ntmps34
  go_wp2_with fail
  refine H1.out.mono ?_
  rintro e w1 ⟨ga, Aa, ma, ca, zs, ea, r1, rfl, hm1, hl1, hb1, ⟨rfl, rfl, hz1, rfl⟩, hB1⟩
  clear x0 x1 x2 H1
  replace K0 := Lib.hid (K0.out.below hB1)
  have f1 := K0.out.2.1.fz
  have p0 := K0.out.2.1.c0
  have p1 := K0.out.2.1.c1
  have p2 := K0.out.2.1.c2
  have HLa : Hid (Lim w1 Aa ma ca zs ∧ Bare zs ∧ val zs = dl.V) := ⟨hl1, hb1, hz1⟩
  have k1 := K0.out.put1 dl.neg Aa ma ca dl.e
  have x3 := k1.1.x3
  have x4 := k1.1.x4
  have x5 := k1.1.x5
  have H2 := dbare_any g2 A2 n2 c2 ys e2 _ k1.2.2.2.2.2.1 hn2 k1.2.2.2.1
  rw [h2.out] at H2
  replace H2 := Lib.hid H2
  have HLa' := Lib.hid (K0.out.2.1.lim HLa.out.1 dl.neg Aa ma ca dl.e)
  have K1 := Lib.hid k1
  clear hl1 hb1 hz1 hB1 K0 k1 h2
  go_wp2_with fail
  refine H2.out.mono ?_
  rintro e w2 ⟨gb, Ab, mb, cb, us, eb, r2, rfl, hm2, hl2, hb2, ⟨rfl, rfl, hz2, rfl⟩, hB2⟩
  clear x3 x4 x5 f1 p0 p1 p2 H2
  replace K1 := Lib.hid (K1.out.below hB2)
  have f1 := K1.out.2.1.fz
  have p0 := K1.out.2.1.c0
  have p1 := K1.out.2.1.c1
  have p2 := K1.out.2.1.c2
  have f2 := K1.out.2.2.1.fz
  have q0 := K1.out.2.2.1.c0
  have q1 := K1.out.2.2.1.c1
  have q2 := K1.out.2.2.1.c2
  have k2 := K1.out.put2 dh.neg Ab mb cb dh.e
  have K0 : Hid (HoldE4 w g1 A1 n1 c1 xs e1 g2 A2 n2 c2 ys e2 dl.neg Aa ma ca zs dl.e dh.neg Ab mb cb us dh.e (World.put w2 (w.heap.size + 1 + 1) dh.neg Ab mb cb dh.e)) := ⟨k2, K1.out.2.2.1.lim (HLa'.out.below hB2) _ _ _ _ _, K1.out.2.2.1.lim hl2 _ _ _ _ _⟩
  replace K0 := Lib.hid (K0.out.below (below_drew _))
  have HZ : Hid ((Bare zs ∧ val zs = dl.V) ∧ Bare us ∧ val us = dh.V) := ⟨HLa.out.2, hb2, hz2⟩
  have hma : ma ≤ 4294967296 := by omega
  have hmb : mb ≤ 4294967296 := by omega
  have C1 : Hid (∀ u, HoldE4 w g1 A1 n1 c1 xs e1 g2 A2 n2 c2 ys e2 dl.neg Aa ma ca zs dl.e dh.neg Ab mb cb us dh.e u → Calls Tryz.prog 70 #[.agg #[.bool dl.neg, .slice Aa ma ca, .int .i64 dl.e]] u fun e w' => e = .returned (.bool true) ∧ Below u.heap.size u w') := fun u hu => isend_l true dl.neg Aa ma ca zs dl.e u hu.2.1 hma (by rw [HZ.out.1.2]; exact HF.out.1) (by show _ = _; rw [HZ.out.1.2]; exact decide_eq_true HM.out.1)
  have C2 : Hid (∀ u, HoldE4 w g1 A1 n1 c1 xs e1 g2 A2 n2 c2 ys e2 dl.neg Aa ma ca zs dl.e dh.neg Ab mb cb us dh.e u → Calls Tryz.prog 70 #[.agg #[.bool dh.neg, .slice Ab mb cb, .int .i64 dh.e]] u fun e w' => e = .returned (.bool false) ∧ Below u.heap.size u w') := fun u hu => isend_l false dh.neg Ab mb cb us dh.e u hu.2.2 hmb (by rw [HZ.out.2.2]; exact HF.out.2) (by show _ = _; rw [HZ.out.2.2]; exact decide_eq_false HM.out.2)
  clear k2 hl2 hb2 hz2 hB2 K1 HLa HLa' hm1 hm2 f1 p0 p1 p2 HM HF h2
  go_wp2_with fail
  clear f2 q0 q1 q2
  refine wp_region_noPanic ?_
  refine wp_region_held_drew (S := fun w' => w'.cell? ⟨w.heap.size + 1, 0, none⟩ = some (.bool dl.neg) ∧ w'.cell? ⟨w.heap.size + 1, 1, none⟩ = some (.slice Aa ma ca) ∧ w'.cell? ⟨w.heap.size + 1, 2, none⟩ = some (.int .i64 dl.e) ∧ w'.cell? ⟨w.heap.size + 1 + 1, 0, none⟩ = some (.bool dh.neg) ∧ w'.cell? ⟨w.heap.size + 1 + 1, 1, none⟩ = some (.slice Ab mb cb) ∧ w'.cell? ⟨w.heap.size + 1 + 1, 2, none⟩ = some (.int .i64 dh.e)) (by kernel_rfl) K0.out.cells (fun hHeld => ?_)
  refine wpAnyH_take (i := 0) (v := ?_) rfl (by kernel_rfl) (by kernel_rfl) (by kernel_rfl) (fun _ _ _ h => h) (Or.inl ⟨by rfl, ?_⟩) hHeld ?_
  rotate_left
  · intro w' hSw
    (try dsimp only at hSw)
    go_simp
    all_goals (with_reducible rfl)
  simp only [List.getElem_toArray, List.getElem_cons_zero, Act.put, List.setIfInBounds_toArray, List.set_cons_zero, List.set_cons_succ]
  refine wpAnyH_take (i := 1) (v := ?_) rfl (by kernel_rfl) (by kernel_rfl) (by kernel_rfl) (fun _ _ _ h => h) (Or.inl ⟨by rfl, ?_⟩) hHeld ?_
  rotate_left
  · intro w' hSw
    (try dsimp only at hSw)
    go_simp
    all_goals (with_reducible rfl)
  simp only [List.getElem_toArray, List.getElem_cons_succ, List.getElem_cons_zero, Act.put, List.setIfInBounds_toArray, List.set_cons_zero, List.set_cons_succ]
  refine wpAnyH_take (i := 2) (v := ?_) rfl (by kernel_rfl) (by kernel_rfl) (by kernel_rfl) (fun _ _ _ h => h) (Or.inl ⟨by rfl, ?_⟩) hHeld ?_
  rotate_left
  · intro w' hSw
    (try dsimp only at hSw)
    go_simp
    all_goals (with_reducible rfl)
  simp only [List.getElem_toArray, List.getElem_cons_succ, List.getElem_cons_zero, Act.put, List.setIfInBounds_toArray, List.set_cons_zero, List.set_cons_succ]
  refine wpAnyH_ready (rs := [3]) (by kernel_rfl) (by simp) ?_
  refine AllReadyH.cons rfl (fun K' hK' => ?_) AllReadyH.nil
  go_simp
  refine (C1.out _ K0.out).mono ?_
  rintro e ua ⟨rfl, hB⟩
  replace K0 := Lib.hid (K0.out.below hB)
  refine hK'.out _ _ ?_ (fun hHeld => ?_)
  · exact K0.out.cells
  clear hK' K' hB C1
  refine wpAnyH_take (i := 4) (v := ?_) rfl (by kernel_rfl) (by kernel_rfl) (by kernel_rfl) (fun _ _ _ h => h) (Or.inl ⟨by rfl, ?_⟩) hHeld ?_
  rotate_left
  · intro w' hSw
    (try dsimp only at hSw)
    go_simp
    all_goals (with_reducible rfl)
  simp only [List.getElem_toArray, List.getElem_cons_succ, List.getElem_cons_zero, Act.put, List.setIfInBounds_toArray, List.set_cons_zero, List.set_cons_succ]
  refine wpAnyH_take (i := 5) (v := ?_) rfl (by kernel_rfl) (by kernel_rfl) (by kernel_rfl) (fun _ _ _ h => h) (Or.inl ⟨by rfl, ?_⟩) hHeld ?_
  rotate_left
  · intro w' hSw
    (try dsimp only at hSw)
    go_simp
    all_goals (with_reducible rfl)
  simp only [List.getElem_toArray, List.getElem_cons_succ, List.getElem_cons_zero, Act.put, List.setIfInBounds_toArray, List.set_cons_zero, List.set_cons_succ]
  refine wpAnyH_ready (rs := [6]) (by kernel_rfl) (by simp) ?_
  refine AllReadyH.cons rfl (fun K' hK' => ?_) AllReadyH.nil
  go_simp
  refine (C2.out _ K0.out).mono ?_
  rintro e ua ⟨rfl, hB⟩
  replace K0 := Lib.hid (K0.out.below hB)
  refine hK'.out _ _ ?_ (fun hHeld => ?_)
  · exact K0.out.cells
  clear hK' K' hB C2
  refine wpAnyH_take (i := 7) (v := ?_) rfl (by kernel_rfl) (by kernel_rfl) (by kernel_rfl) (fun _ _ _ h => h) (Or.inl ⟨by rfl, ?_⟩) hHeld ?_
  rotate_left
  · intro w' hSw
    (try dsimp only at hSw)
    go_simp
    all_goals (with_reducible rfl)
  simp only [List.getElem_toArray, List.getElem_cons_succ, List.getElem_cons_zero, Act.put, List.setIfInBounds_toArray, List.set_cons_zero, List.set_cons_succ]
  refine wpAnyH_take (i := 8) (v := ?_) rfl (by kernel_rfl) (by kernel_rfl) (by kernel_rfl) (fun _ _ _ h => h) (Or.inl ⟨by rfl, ?_⟩) hHeld ?_
  rotate_left
  · intro w' hSw
    (try dsimp only at hSw)
    go_simp
    all_goals (with_reducible rfl)
  simp only [List.getElem_toArray, List.getElem_cons_succ, List.getElem_cons_zero, Act.put, List.setIfInBounds_toArray, List.set_cons_zero, List.set_cons_succ]
  refine wpAnyH_take (i := 9) (v := undef) rfl (by kernel_rfl) (by kernel_rfl) (by kernel_rfl) (fun _ _ _ h => h) (Or.inr ⟨by rfl, rfl⟩) hHeld ?_
  simp only [List.getElem_toArray, List.getElem_cons_succ, List.getElem_cons_zero, Act.put, List.setIfInBounds_toArray, List.set_cons_zero, List.set_cons_succ]
  refine wpAnyH_take (i := 10) (v := undef) rfl (by kernel_rfl) (by kernel_rfl) (by kernel_rfl) (fun _ _ _ h => h) (Or.inr ⟨by rfl, rfl⟩) hHeld ?_
  simp only [List.getElem_toArray, List.getElem_cons_succ, List.getElem_cons_zero, Act.put, List.setIfInBounds_toArray, List.set_cons_zero, List.set_cons_succ]
  refine wpAnyH_take (i := 11) (v := undef) rfl (by kernel_rfl) (by kernel_rfl) (by kernel_rfl) (fun _ _ _ h => h) (Or.inr ⟨by rfl, rfl⟩) hHeld ?_
  simp only [List.getElem_toArray, List.getElem_cons_succ, List.getElem_cons_zero, Act.put, List.setIfInBounds_toArray, List.set_cons_zero, List.set_cons_succ]
  refine wpAnyH_take (i := 12) (v := undef) rfl (by kernel_rfl) (by kernel_rfl) (by kernel_rfl) (fun _ _ _ h => h) (Or.inr ⟨by rfl, rfl⟩) hHeld ?_
  simp only [List.getElem_toArray, List.getElem_cons_succ, List.getElem_cons_zero, Act.put, List.setIfInBounds_toArray, List.set_cons_zero, List.set_cons_succ]
  refine wpAnyH_take (i := 13) (v := ?_) rfl (by kernel_rfl) (by kernel_rfl) (by kernel_rfl) (fun _ _ _ h => h) (Or.inl ⟨by rfl, ?_⟩) hHeld ?_
  rotate_left
  · intro w' hSw
    (try dsimp only at hSw)
    go_simp
    all_goals (with_reducible rfl)
  simp only [List.getElem_toArray, List.getElem_cons_succ, List.getElem_cons_zero, Act.put, List.setIfInBounds_toArray, List.set_cons_zero, List.set_cons_succ]
  have y0 := K0.out.cells.1
  have y1 := K0.out.cells.2.1
  have y2 := K0.out.cells.2.2.1
  have y3 := K0.out.cells.2.2.2.1
  have y4 := K0.out.cells.2.2.2.2.1
  have y5 := K0.out.cells.2.2.2.2.2
  have f1 := K0.out.1.2.1.fz
  have f2 := K0.out.1.2.2.1.fz
  refine wpAnyH_ready (rs := [14]) (by kernel_rfl) (by simp) ?_
  refine AllReadyH.cons rfl (fun K' hK' => ?_) AllReadyH.nil
  go_simp
  refine hK'.out _ _ ?_ (fun hHeld => ?_)
  · exact K0.out.put1.cells
  clear hK' K' y0 y1 y2 y3 y4 y5 f1 f2
  replace K0 := Lib.hid K0.out.put1
  have y0 := K0.out.cells.1
  have y1 := K0.out.cells.2.1
  have y2 := K0.out.cells.2.2.1
  have y3 := K0.out.cells.2.2.2.1
  have y4 := K0.out.cells.2.2.2.2.1
  have y5 := K0.out.cells.2.2.2.2.2
  have f1 := K0.out.1.2.1.fz
  have f2 := K0.out.1.2.2.1.fz
  refine wpAnyH_ready (rs := [15]) (by kernel_rfl) (by simp) ?_
  refine AllReadyH.cons rfl (fun K' hK' => ?_) AllReadyH.nil
  go_simp
  refine hK'.out _ _ ?_ (fun hHeld => ?_)
  · exact K0.out.put2.cells
  clear hK' K' y0 y1 y2 y3 y4 y5 f1 f2
  replace K0 := Lib.hid K0.out.put2
  refine wpAnyH_take (i := 16) (v := ?_) rfl (by kernel_rfl) (by kernel_rfl) (by kernel_rfl) (fun _ _ _ h => h) (Or.inl ⟨by rfl, ?_⟩) hHeld ?_
  rotate_left
  · intro w' hSw
    (try dsimp only at hSw)
    go_simp
    all_goals (with_reducible rfl)
  simp only [List.getElem_toArray, List.getElem_cons_succ, List.getElem_cons_zero, Act.put, List.setIfInBounds_toArray, List.set_cons_zero, List.set_cons_succ]
  refine wpAnyH_done (by kernel_rfl) ?_ _
  refine NoPanic.normal ?_
  have Hfin := Lib.hid (K0.out.tell HZ.out (ok := false) (Or.inr ⟨rfl, HN.out⟩))
  have y := K0.out.cells
  obtain ⟨y0, y1, y2, y3, y4, y5⟩ := y
  clear K0 hHeld HN HZ
  go_wp2
  exact bodyPost_ret (v := .tuple #[.agg #[.bool dl.neg, .slice Aa ma ca, .int .i64 dl.e], .agg #[.bool dh.neg, .slice Ab mb cb, .int .i64 dh.e], .bool false]) (by simp [results, Tryz.results34, go_sem, y0, y1, y2, y3, y4, y5]) rfl Hfin.out

set_option maxHeartbeats 2000000 in
set_option maxRecDepth 20000 in
theorem ends_all (g1 : Bool) (A1 : Option Addr) (n1 c1 : Nat) (xs : List Nat) (e1 : Int) (g2 : Bool) (A2 : Option Addr) (n2 c2 : Nat) (ys : List Nat) (e2 : Int) (dl dh : Dy) (w : World) (hA : Lim w A1 n1 c1 xs) (hB : Lim w A2 n2 c2 ys) (hn1 : n1 ≤ 4294967296) (hn2 : n2 ≤ 4294967296) (hT : Tab w) (h1 : mk g1 (val xs) e1 = some dl) (h2 : mk g2 (val ys) e2 = some dh) (h3 : Mid dl) (h4 : Mid dh) :
    Calls Tryz.prog 34 #[.agg #[.bool g1, .slice A1 n1 c1, .int .i64 e1, .bool g2, .slice A2 n2 c2, .int .i64 e2]] w (EndsTold w g1 (val xs) e1 g2 (val ys) e2) := by
  have k0 := HoldE3.start (g1 := g1) (e1 := e1) (g2 := g2) (e2 := e2) hA hB hT
  have H1 := dbare_any g1 A1 n1 c1 xs e1 _ k0.2.2.2.2.1 hn1 k0.2.2.2.1
  rw [h1] at H1
  replace H1 := Lib.hid H1
  have K0 := Lib.hid k0
  have x0 := k0.1.x0
  have x1 := k0.1.x1
  have x2 := k0.1.x2

  have h2 := Lib.hid h2
  have HF : Hid (Fine dl ∧ Fine dh) := ⟨(mk_fine h1).1, (mk_fine h2.out).1⟩
  have HM := Lib.hid (And.intro h3 h4)
  have HK : Hid (mk g1 (val xs) e1 = some dl) := h1
  clear hA hB hT k0 h1 h3 h4
  go_enter Tryz.func34, Tryz.ntmps34
  go_wp2_with fail
  refine H1.out.mono ?_
  rintro e w1 ⟨ga, Aa, ma, ca, zs, ea, r1, rfl, hm1, hl1, hb1, ⟨rfl, rfl, hz1, rfl⟩, hB1⟩
  clear x0 x1 x2 H1
  replace K0 := Lib.hid (K0.out.below hB1)
  have f1 := K0.out.2.1.fz
  have p0 := K0.out.2.1.c0
  have p1 := K0.out.2.1.c1
  have p2 := K0.out.2.1.c2
  have HLa : Hid (Lim w1 Aa ma ca zs ∧ Bare zs ∧ val zs = dl.V) := ⟨hl1, hb1, hz1⟩
  have k1 := K0.out.put1 dl.neg Aa ma ca dl.e
  have x3 := k1.1.x3
  have x4 := k1.1.x4
  have x5 := k1.1.x5
  have H2 := dbare_any g2 A2 n2 c2 ys e2 _ k1.2.2.2.2.2.1 hn2 k1.2.2.2.1
  rw [h2.out] at H2
  replace H2 := Lib.hid H2
  have HLa' := Lib.hid (K0.out.2.1.lim HLa.out.1 dl.neg Aa ma ca dl.e)
  have K1 := Lib.hid k1
  clear hl1 hb1 hz1 hB1 K0 k1 h2
  go_wp2_with fail
  refine H2.out.mono ?_
  rintro e w2 ⟨gb, Ab, mb, cb, us, eb, r2, rfl, hm2, hl2, hb2, ⟨rfl, rfl, hz2, rfl⟩, hB2⟩
  clear x3 x4 x5 f1 p0 p1 p2 H2
  replace K1 := Lib.hid (K1.out.below hB2)
  have f1 := K1.out.2.1.fz
  have p0 := K1.out.2.1.c0
  have p1 := K1.out.2.1.c1
  have p2 := K1.out.2.1.c2
  have f2 := K1.out.2.2.1.fz
  have q0 := K1.out.2.2.1.c0
  have q1 := K1.out.2.2.1.c1
  have q2 := K1.out.2.2.1.c2
  have k2 := K1.out.put2 dh.neg Ab mb cb dh.e
  have K0 : Hid (HoldE4 w g1 A1 n1 c1 xs e1 g2 A2 n2 c2 ys e2 dl.neg Aa ma ca zs dl.e dh.neg Ab mb cb us dh.e (World.put w2 (w.heap.size + 1 + 1) dh.neg Ab mb cb dh.e)) := ⟨k2, K1.out.2.2.1.lim (HLa'.out.below hB2) _ _ _ _ _, K1.out.2.2.1.lim hl2 _ _ _ _ _⟩
  replace K0 := Lib.hid (K0.out.below (below_drew _))
  have HZ : Hid ((Bare zs ∧ val zs = dl.V) ∧ Bare us ∧ val us = dh.V) := ⟨HLa.out.2, hb2, hz2⟩
  have hma : ma ≤ 4294967296 := by omega
  have hmb : mb ≤ 4294967296 := by omega
  have C1 : Hid (∀ u, HoldE4 w g1 A1 n1 c1 xs e1 g2 A2 n2 c2 ys e2 dl.neg Aa ma ca zs dl.e dh.neg Ab mb cb us dh.e u → Calls Tryz.prog 70 #[.agg #[.bool dl.neg, .slice Aa ma ca, .int .i64 dl.e]] u fun e w' => e = .returned (.bool true) ∧ Below u.heap.size u w') := fun u hu => isend_l true dl.neg Aa ma ca zs dl.e u hu.2.1 hma (by rw [HZ.out.1.2]; exact HF.out.1) (by show _ = _; rw [HZ.out.1.2]; exact decide_eq_true HM.out.1)
  have C2 : Hid (∀ u, HoldE4 w g1 A1 n1 c1 xs e1 g2 A2 n2 c2 ys e2 dl.neg Aa ma ca zs dl.e dh.neg Ab mb cb us dh.e u → Calls Tryz.prog 70 #[.agg #[.bool dh.neg, .slice Ab mb cb, .int .i64 dh.e]] u fun e w' => e = .returned (.bool true) ∧ Below u.heap.size u w') := fun u hu => isend_l true dh.neg Ab mb cb us dh.e u hu.2.2 hmb (by rw [HZ.out.2.2]; exact HF.out.2) (by show _ = _; rw [HZ.out.2.2]; exact decide_eq_true HM.out.2)
  obtain ⟨cv, hcv⟩ : ∃ cv, cmpI (dw dl.neg dl.V dl.e) (dw dh.neg dh.V dh.e) = cv := ⟨_, rfl⟩
  obtain ⟨v, hv⟩ : ∃ v, decide (cv ≤ (0 : Int)) = v := ⟨_, rfl⟩
  have C3 : Hid (∀ u, HoldE4 w g1 A1 n1 c1 xs e1 g2 A2 n2 c2 ys e2 dl.neg Aa ma ca zs dl.e dh.neg Ab mb cb us dh.e u → Calls Tryz.prog 10 #[.agg #[.bool dl.neg, .slice Aa ma ca, .int .i64 dl.e], .agg #[.bool dh.neg, .slice Ab mb cb, .int .i64 dh.e]] u fun e w' => e = .returned (.int .i64 cv) ∧ Below u.heap.size u w') := fun u hu => dcmp_l cv dl.neg Aa ma ca zs dl.e dh.neg Ab mb cb us dh.e u hu.2.1 hu.2.2 hma hmb hu.1.2.2.2.1 (by show _ = _; rw [HZ.out.1.2, HZ.out.2.2]; exact hcv)
  have HV : Hid ((v = true ∧ EndsOk g1 (val xs) e1 g2 (val ys) e2 dl dh) ∨ (v = false ∧ ¬ ∃ lo hi, EndsOk g1 (val xs) e1 g2 (val ys) e2 lo hi)) := by
    have hle : cv ≤ 0 ↔ dw dl.neg dl.V dl.e ≤ dw dh.neg dh.V dh.e := by
      rw [← hcv]
      rcases Int.lt_trichotomy (dw dl.neg dl.V dl.e) (dw dh.neg dh.V dh.e) with h | h | h
      · rw [cmpI_lt h]; omega
      · rw [cmpI_eq h]; omega
      · rw [cmpI_gt h]; omega
    by_cases hc : cv ≤ 0
    · exact Or.inl ⟨by rw [← hv]; exact decide_eq_true hc, HK.out, h2, HM.out.1, HM.out.2, hle.1 hc⟩
    · refine Or.inr ⟨by rw [← hv]; exact decide_eq_false hc, fun ⟨lo, hi, q1, q2, _, _, q5⟩ => ?_⟩
      rw [HK.out] at q1
      rw [h2] at q2
      cases q1
      cases q2
      exact hc (hle.2 q5)
  clear hcv
  clear k2 hl2 hb2 hz2 hB2 K1 HLa HLa' hm1 hm2 f1 p0 p1 p2 HM HF h2 HK
  go_wp2_with fail
  clear f2 q0 q1 q2
  have f1 := K0.out.1.2.1.fz
  have f2 := K0.out.1.2.2.1.fz
  have y := K0.out.cells
  go_region_held3 (fun w' => w'.cell? ⟨w.heap.size + 1, 0, none⟩ = some (.bool dl.neg) ∧ w'.cell? ⟨w.heap.size + 1, 1, none⟩ = some (.slice Aa ma ca) ∧ w'.cell? ⟨w.heap.size + 1, 2, none⟩ = some (.int .i64 dl.e) ∧ w'.cell? ⟨w.heap.size + 1 + 1, 0, none⟩ = some (.bool dh.neg) ∧ w'.cell? ⟨w.heap.size + 1 + 1, 1, none⟩ = some (.slice Ab mb cb) ∧ w'.cell? ⟨w.heap.size + 1 + 1, 2, none⟩ = some (.int .i64 dh.e)) (first | (with_reducible exact K0.out.cells) | (with_reducible exact K0.out.put1.cells) | (with_reducible exact K0.out.put2.cells) | (with_reducible exact K0.out.put1.put2.cells) | (with_reducible exact K0.out.put2.put1.cells))
    (first
      | (go_at_call 70; (with_reducible refine (C1.out _ K0.out).mono ?_); rintro e ua ⟨rfl, hB⟩; replace K0 := Lib.hid (K0.out.below hB); clear hB)
      | (go_at_call 70; (with_reducible refine (C2.out _ K0.out).mono ?_); rintro e ub ⟨rfl, hB⟩; replace K0 := Lib.hid (K0.out.below hB); clear hB)
      | (go_at_call 10; (with_reducible refine (C3.out _ K0.out).mono ?_); rintro e uc ⟨rfl, hB⟩; replace K0 := Lib.hid (K0.out.below hB); clear hB; have f1 := K0.out.1.2.1.fz; have f2 := K0.out.1.2.2.1.fz; have y0 := K0.out.cells.1; have y1 := K0.out.cells.2.1; have y2 := K0.out.cells.2.2.1; have y3 := K0.out.cells.2.2.2.1; have y4 := K0.out.cells.2.2.2.2.1; have y5 := K0.out.cells.2.2.2.2.2))
  all_goals (
    have Hfin := Lib.hid (K0.out.put1.put2.tell HZ.out HV.out)
    obtain ⟨y0, y1, y2, y3, y4, y5⟩ := K0.out.put1.put2.cells
    clear K0 C1 C2 C3 HZ HV
    go_wp2
    exact bodyPost_ret (v := .tuple #[.agg #[.bool dl.neg, .slice Aa ma ca, .int .i64 dl.e], .agg #[.bool dh.neg, .slice Ab mb cb, .int .i64 dh.e], .bool v]) (by simp [results, Tryz.results34, go_sem, y0, y1, y2, y3, y4, y5]) rfl Hfin.out)

theorem ends_l (g1 : Bool) (A1 : Option Addr) (n1 c1 : Nat) (xs : List Nat) (e1 : Int) (g2 : Bool) (A2 : Option Addr) (n2 c2 : Nat) (ys : List Nat) (e2 : Int) (w : World) (hA : Lim w A1 n1 c1 xs) (hB : Lim w A2 n2 c2 ys) (hn1 : n1 ≤ 4294967296) (hn2 : n2 ≤ 4294967296) (hT : Tab w) :
    Calls Tryz.prog 34 #[.agg #[.bool g1, .slice A1 n1 c1, .int .i64 e1, .bool g2, .slice A2 n2 c2, .int .i64 e2]] w (EndsTold w g1 (val xs) e1 g2 (val ys) e2) := by
  cases h1 : mk g1 (val xs) e1 with
  | none => exact ends_no1 g1 A1 n1 c1 xs e1 g2 A2 n2 c2 ys e2 w hA hB hn1 hn2 hT h1
  | some dl =>
    cases h2 : mk g2 (val ys) e2 with
    | none => exact ends_no2 g1 A1 n1 c1 xs e1 g2 A2 n2 c2 ys e2 dl w hA hB hn1 hn2 hT h1 h2
    | some dh =>
      by_cases h3 : Mid dl
      · by_cases h4 : Mid dh
        · exact ends_all g1 A1 n1 c1 xs e1 g2 A2 n2 c2 ys e2 dl dh w hA hB hn1 hn2 hT h1 h2 h3 h4
        · exact ends_midB g1 A1 n1 c1 xs e1 g2 A2 n2 c2 ys e2 dl dh w hA hB hn1 hn2 hT h1 h2 h3 h4
      · exact ends_midA g1 A1 n1 c1 xs e1 g2 A2 n2 c2 ys e2 dl dh w hA hB hn1 hn2 hT h1 h2 h3

end Go.Proofs.YtijhdlkfihjbiaaGreatDoor
