/- The walk of planimeterlaw09.within. -/
import Derived.Test.YtfccpjjdemanbaaDdWithin
namespace Go.Proofs.Ytfccpjjdemanbaa
open Go.RowKit

theorem HoldR.cells {w u0 u : World} {h l : Nat} {g : Bool} {A : Option Addr} {n c : Nat} {ds : List Nat} {e0 : Int} {bs : List Nat} (hw : HoldW w h l g A n c ds e0 u0) (hh : HoldR u0 bs u) : CellsW w h l g A n c e0 u := (hw.below hh.1).cells
theorem HoldR.digs {w u0 u : World} {h l : Nat} {g : Bool} {A : Option Addr} {n c : Nat} {ds : List Nat} {e0 : Int} {bs : List Nat} (hw : HoldW w h l g A n c ds e0 u0) (hh : HoldR u0 bs u) : Dig u A n c ds := (hw.below hh.1).dig
theorem HoldR.cellsP {w u0 u : World} {h l : Nat} {g : Bool} {A : Option Addr} {n c : Nat} {ds : List Nat} {e0 : Int} {bs : List Nat} {X : Nat} (hw : HoldW w h l g A n c ds e0 u0) (hh : HoldR u0 (X :: bs) u) (g' : Bool) (A' : Option Addr) (n' c' : Nat) (e' : Int) : CellsW w h l g A n c e0 (World.put u X g' A' n' c' e') := (hw.below (hh.put g' A' n' c' e')).cells

set_option maxRecDepth 20000 in
set_option maxHeartbeats 2000000 in
theorem within_w {h l k K b : Nat} (hh : Nb k h) (hl : Nb k l) (hk : k ≤ 2090) (hb : b ≤ 100) (hK2 : K ≤ 2750) (g : Bool) (A : Option Addr) (n c : Nat) (ds : List Nat) (e0 : Int) (w : World) (hA : Dig w A n c ds) (ba : D.Bare ds) (hn : n ≤ 240) (h1 : -2148 ≤ e0) (h2 : e0 ≤ 2048)
    (hD : dw g (D.val ds) e0 = (sz (D.val ds) e0 : Int)) (hK : sz (D.val ds) e0 ≤ 2 ^ K * 2 ^ kb) (hc : ((fvI h + fvI l) * ((2 ^ kb : Nat) : Int) - (sz (D.val ds) e0 : Int)).natAbs * 2 ^ b ≤ sz (D.val ds) e0) :
    Calls Try.prog 26 #[.agg #[.float .f64 h, .float .f64 l], .agg #[.bool g, .slice A n c, .int .i64 e0], .int .i64 (b : Int)] w fun e w' => e = .returned (.bool true) ∧ Below w.heap.size w w' := by
  obtain ⟨⟨og, oV, oE⟩, ⟨pg, pV, pE⟩, o2, o3, o4, o5, p1, p2, p3, p4, p5⟩ := within_o hh hl hb h1 h2 hD hK hc
  have HF1 := Lib.hid (finite_w h hh.1 hh.2.1)
  have HF2 := Lib.hid (finite_w l hl.1 hl.2.1)
  have HW1 := worth_w h hh.1
  have HW2 := worth_w l hl.1
  generalize fO h = d1 at *
  generalize fO l = d2 at *
  obtain ⟨g1, V1, E1⟩ := d1
  obtain ⟨g2, V2, E2⟩ := d2
  obtain ⟨ng, hng⟩ : ∃ x, (!g) = x := ⟨_, rfl⟩
  rw [hng] at p1
  replace HW1 : Hid (∀ u, Calls Try.prog 12 #[.float .f64 h] u (NTold u ⟨g1, V1, E1⟩ 4)) := HW1
  replace HW2 : Hid (∀ u, Calls Try.prog 12 #[.float .f64 l] u (NTold u ⟨g2, V2, E2⟩ 4)) := HW2
  have HA : Hid (∀ u A1 m1 c1 es1 A2 m2 c2 es2, Mn u V1 A1 m1 c1 es1 → Mn u V2 A2 m2 c2 es2 → m1 ≤ 4 → m2 ≤ 4 →
      Calls Try.prog 11 #[.agg #[.bool g1, .slice A1 m1 c1, .int .i64 E1], .agg #[.bool g2, .slice A2 m2 c2, .int .i64 E2]] u (NTold u ⟨og, oV, oE⟩ 132)) := fun u A1 m1 c1 es1 A2 m2 c2 es2 k1 k2 m1 m2 => by
    refine (o5 A1 _ c1 es1 A2 _ c2 es2 u k1.1 k2.1 k1.2.1 k2.2.1 (by omega) (by omega) k1.2.2 k2.2.2).mono ?_
    rintro e w' ⟨A5, m5, c5, rs, rfl, j1, j2, j3, j4, j5⟩
    exact ⟨A5, m5, c5, rs, rfl, Mn.len (k := k + 1) ⟨j2, j3, j4⟩ o2 (by omega), j2, j3, j4, j5⟩
  have HA2 : Hid (∀ u A1 m1 c1 es1, Mn u oV A1 m1 c1 es1 → m1 ≤ 132 → Dig u A n c ds →
      Calls Try.prog 11 #[.agg #[.bool og, .slice A1 m1 c1, .int .i64 oE], .agg #[.bool ng, .slice A n c, .int .i64 e0]] u (NTold u ⟨pg, pV, pE⟩ 240)) := fun u A1 m1 c1 es1 k1 m1 k2 => by
    refine (p1 A1 _ c1 es1 A n c ds u k1.1 k2 k1.2.1 ba (by omega) (by omega) k1.2.2 rfl).mono ?_
    rintro e w' ⟨A5, m5, c5, rs, rfl, j1, j2, j3, j4, j5⟩
    exact ⟨A5, m5, c5, rs, rfl, Mn.len (k := K + 1074) ⟨j2, j3, j4⟩ p2 (by omega), j2, j3, j4, j5⟩
  obtain ⟨Eb, hEb⟩ : ∃ x : Int, e0 - (b : Int) = x := ⟨_, rfl⟩
  have hwr : IntKind.i64.wrap Eb = Eb := by rw [IntKind.wrap_i64]; omega
  obtain ⟨v, hv⟩ : ∃ v, cmpI (dw false pV pE) (dw false (D.val ds) Eb) = v := ⟨_, rfl⟩
  have hv0 : v ≤ 0 := by rw [← hv, ← hEb]; exact p5
  have HC : Hid (∀ u A3 m3 c3 es3, Mn u pV A3 m3 c3 es3 → m3 ≤ 240 → Dig u A n c ds →
      Calls Try.prog 38 #[.agg #[.bool false, .slice A3 m3 c3, .int .i64 pE], .agg #[.bool false, .slice A n c, .int .i64 Eb]] u fun e w' => e = .returned (.int .i64 v) ∧ Below u.heap.size u w') := fun u A3 m3 c3 es3 k1 k2 k3 => by
    have q1 : -2148 ≤ pE := p3
    have q2 : pE ≤ 2048 := p4
    exact gcmp_any v false A3 m3 c3 es3 pE false A n c ds Eb u k1.1 k3 k1.2.1 ba (by omega) hn (by omega) (by omega) (by omega) (by omega) (by show cmpI _ _ = _; rw [k1.2.2]; exact hv)
  have dv : decide (v ≤ 0) = true := decide_eq_true hv0
  obtain ⟨u0, hu0⟩ : ∃ u0, (w.alloc (.cells #[.float .f64 h, .float .f64 l] 33)).alloc (.cells #[.bool ng, .slice A n c, .int .i64 e0] 29) = u0 := ⟨_, rfl⟩
  have W0 := HoldW.start w h l ng A n c ds e0 hA
  rw [hu0] at W0
  have hz0 : u0.heap.size = w.heap.size + 1 + 1 := by rw [← hu0]; simp
  have cur := Lib.hid ((HoldR.start u0).below (below_drew _))
  have F1 := (HoldR.start u0).one.below (below_drew _)
  rw [hz0] at F1
  have F1 := Lib.hid F1
  have W0 := Lib.hid W0
  clear o2 o3 o4 o5 p1 p2 p3 p4 p5 hA ba hn h1 h2 hD hK hc hh hl hk hb hK2 hv hv0
  subst hu0
  go_enter Try.func26, Try.ntmps26
  go_wp2_with fail
  refine (HF1.out _).mono ?_
  rintro e w' ⟨rfl, rfl⟩
  go_wp2_with fail
  refine (HF2.out _).mono ?_
  rintro e w' ⟨rfl, rfl⟩
  clear HF1 HF2
  go_wp2_with fail
  go_cut [7] from 8 (fun s7 wx => ∃ (p m4 c4 : Nat) (A4 : Option Addr) (es4 : List Nat), s7 = .pointer (some ⟨p, 0, none⟩) ∧ m4 ≤ 240 ∧ Hid (RelR ((w.alloc (.cells #[.float .f64 h, .float .f64 l] 33)).alloc (.cells #[.bool ng, .slice A n c, .int .i64 e0] 29)) p pg A4 m4 c4 pE pV es4 wx))
  case first =>
    go_region_held3 (fun u => CellsW w h l ng A n c e0 u)
      (first | (with_reducible exact HoldR.cells W0.out cur.out) | (with_reducible exact HoldR.cells W0.out F1.out) | (with_reducible exact HoldR.cells W0.out (cur.out.below (below1 _ _))) | (with_reducible exact HoldR.cellsP W0.out cur.out _ _ _ _ _))
      (first
        | (go_at_call 12; (with_reducible refine (HW1.out _).mono ?_); rintro e wa ⟨A1, m1, c1, es1, rfl, hm1, hl1, hd1, hv1, hB1⟩; (first | (with_reducible (replace cur := Lib.hid (cur.out.below hB1))) | (with_reducible (replace cur := Lib.hid (cur.out.one.below hB1))) | (with_reducible (replace cur := Lib.hid (F1.out.below hB1)))); have L1 : Hid (Mn wa V1 A1 m1 c1 es1) := ⟨hl1, hd1, hv1⟩; clear hl1 hd1 hv1 hB1)
        | (go_at_call 12; (with_reducible refine (HW2.out _).mono ?_); rintro e wb ⟨A2, m2, c2, es2, rfl, hm2, hl2, hd2, hv2, hB2⟩; (first | (with_reducible (replace cur := Lib.hid (cur.out.below hB2))) | (with_reducible (replace cur := Lib.hid (cur.out.one.below hB2))) | (with_reducible (replace cur := Lib.hid (F1.out.below hB2)))); (first | (with_reducible (replace L1 := Lib.hid (L1.out.below hB2))) | (with_reducible (replace L1 := Lib.hid ((L1.out.below (below1 _ (.cells #[.bool false, .slice none 0 0, .int .i64 0] 29))).below hB2))) | skip); have L2 : Hid (Mn wb V2 A2 m2 c2 es2) := ⟨hl2, hd2, hv2⟩; clear hl2 hd2 hv2 hB2)
        | (go_at_call 11; (with_reducible refine (HA.out _ A1 m1 c1 es1 A2 m2 c2 es2 (by first | (with_reducible exact L1.out) | (with_reducible exact L1.out.below (below1 _ _))) (by first | (with_reducible exact L2.out) | (with_reducible exact L2.out.below (below1 _ _))) hm1 hm2).mono ?_); rintro e wd ⟨A3, m3, c3, es3, rfl, hm3, hl3, hd3, hv3, hB3⟩; (first | (with_reducible (replace cur := Lib.hid (cur.out.below hB3))) | (with_reducible (replace cur := Lib.hid (cur.out.one.below hB3))) | (with_reducible (replace cur := Lib.hid (F1.out.below hB3)))); have L3 : Hid (Mn wd oV A3 m3 c3 es3) := ⟨hl3, hd3, hv3⟩; clear hl3 hd3 hv3 hB3)
        | (go_at_call 11; (with_reducible refine (HA2.out _ A3 m3 c3 es3 (by first | (with_reducible exact L3.out) | (with_reducible exact L3.out.below (below1 _ _))) hm3 (by first | (with_reducible exact HoldR.digs W0.out cur.out) | (with_reducible exact HoldR.digs W0.out (cur.out.below (below1 _ _))))).mono ?_); rintro e we ⟨A4, m4, c4, es4, rfl, hm4, hl4, hd4, hv4, hB4⟩; (first | (with_reducible (replace cur := Lib.hid (cur.out.below hB4))) | (with_reducible (replace cur := Lib.hid (cur.out.one.below hB4))) | (with_reducible (replace cur := Lib.hid (F1.out.below hB4)))); have L4 : Hid (Mn we pV A4 m4 c4 es4) := ⟨hl4, hd4, hv4⟩; clear hl4 hd4 hv4 hB4; (first | (have kx := cur.out.first; have x0 := kx.1.c0; have x1 := kx.1.c1; have x2 := kx.1.c2; have xf := kx.1.fz; have xl := kx.1.lt; clear kx) | skip)))
    all_goals (go_wp2_with fail)
    all_goals go_meet
    all_goals (refine ⟨_, m4, c4, A4, es4, rfl, hm4, ?_⟩)
    all_goals (first
      | (have t := RelR.last (g := pg) (E := pE) cur.out L4.out; (with_reducible exact Lib.hid t))
      | (have t := RelR.ahead (g := pg) (E := pE) cur.out L4.out; (with_reducible exact Lib.hid t)))
  case rest =>
    obtain ⟨ux, rfl⟩ : ∃ ux, ux = wc := ⟨_, rfl⟩
    obtain ⟨p, m4, c4, A4, es4, rfl, hm4, HR⟩ := hcut
    clear cur F1 HW1 HW2 HA HA2
    have hp : w.heap.size + 1 < p := by have := HR.out.2.2.2; rw [hz0] at this; omega
    have q1 := HR.out.2.1
    have q2 := W0.out.2.1.below HR.out.1
    have q3 := W0.out.2.2.1.below HR.out.1
    have q4 := HR.out.2.2.1
    have r1 := q1.set0 false
    have r2 := q2.oth (b' := p) (by omega) 0 (.bool false)
    have s1 := (r1.oth (b' := w.heap.size + 1) (by omega) 0 (.bool false)).oth (b' := w.heap.size + 1) (by omega) 2 (.int .i64 Eb)
    have s2 := (r2.set0 false).set2 Eb
    have d3 := (r2.set0 false).dig1 (r2.dig1 (q1.dig1 q3 0 (.bool false)) 0 (.bool false)) 2 (.int .i64 Eb)
    have d4 := (r2.set0 false).dig1 (r2.dig1 (q1.dig1 q4.1 0 (.bool false)) 0 (.bool false)) 2 (.int .i64 Eb)
    have hbl := W0.out.2.2.2.trans (HR.out.1.mono W0.out.2.2.2.size)
    have bb := (((hbl.setCell (p := ⟨p, 0, none⟩) (by show w.heap.size ≤ p; omega) (.bool false)).setCell (p := ⟨w.heap.size + 1, 0, none⟩) (by show w.heap.size ≤ w.heap.size + 1; omega) (.bool false)).setCell (p := ⟨w.heap.size + 1, 2, none⟩) (by show w.heap.size ≤ w.heap.size + 1; omega) (.int .i64 Eb))
    have x0 := q1.c0
    have x1 := q1.c1
    have x2 := q1.c2
    have xf := q1.fz
    have y0 := q2.c0
    have y1 := q2.c1
    have y2 := q2.c2
    have yf := q2.fz
    have S1 := Lib.hid s1
    have S2 := Lib.hid s2
    have D3 := Lib.hid d3
    have D4 : Hid (Mn _ pV A4 m4 c4 es4) := ⟨d4, q4.2⟩
    have BB := Lib.hid bb
    clear q1 q2 q3 q4 r1 r2 s1 s2 d3 d4 hbl bb HR W0
    go_wp2_with fail
    refine (HC.out _ A4 m4 c4 es4 D4.out hm4 D3.out).mono ?_
    rintro e uz ⟨rfl, hB⟩
    have Hfin := Lib.hid (BB.out.trans (hB.mono BB.out.size))
    clear hB BB S1 S2 D3 D4 HC x0 x1 x2 xf y0 y1 y2 yf
    go_wp2
    go_ret
    exact ⟨rfl, Hfin.out⟩
end Go.Proofs.Ytfccpjjdemanbaa
