/- The walk of DdProds, of two safe numbers. -/
import Derived.Test.YtfccpjjdemanbaaDdProds
namespace Go.Proofs.Ytfccpjjdemanbaa
open Go.RowKit

/-- A number in its block. -/
def HoldN9 (w0 : World) (b : Nat) (g : Bool) (A : Option Addr) (n c : Nat) (ds : List Nat) (e0 : Int) (w : World) : Prop := Bd w b 29 g A n c e0 ∧ Dig w A n c ds ∧ Below w0.heap.size w0 w
theorem HoldN9.below {w0 : World} {b : Nat} {g : Bool} {A : Option Addr} {n c : Nat} {ds : List Nat} {e0 : Int} {w w' : World} (h : HoldN9 w0 b g A n c ds e0 w) (hb : Below w.heap.size w w') : HoldN9 w0 b g A n c ds e0 w' := ⟨h.1.below hb, h.2.1.below hb, h.2.2.trans (hb.mono h.2.2.size)⟩

set_option maxRecDepth 20000 in
set_option maxHeartbeats 4000000 in
theorem ddProds_yes (a b : Nat) (ha : a < 18446744073709551616) (hb : b < 18446744073709551616) (sa : Sf a) (sb : Sf b) (w : World) :
    Calls Try.prog 4 #[.int .u64 (a : Int), .int .u64 (b : Int)] w fun e w' => e = .returned (.bool true) ∧ Below w.heap.size w w' := by
  obtain ⟨k, hk⟩ : ∃ k, k = 1675 := ⟨_, rfl⟩
  have na := sf_nb hk ha sa
  have nb := sf_nb hk hb sb
  obtain ⟨h, l, e1, nh, nl, vhl, bh, bl, P1, P0⟩ := prods_all hk na nb sa sb
  have hva : decide (Sf a) = true := decide_eq_true sa
  have hvb : decide (Sf b) = true := decide_eq_true sb
  have HL := Lib.hid (dalive_any w)
  have R1 := Lib.hid (fun u => rsafe_l true a ha u hva)
  have R2 := Lib.hid (fun u => rsafe_l true b hb u hvb)
  have fa := frombits_e a
  have fb := frombits_e b
  have SW := Lib.hid (split_w e1)
  have HWa := worth_w a ha
  have HWb := worth_w b hb
  have HWh := worth_w h nh.1
  have HWl := worth_w l nl.1
  have xa := fO_exp na.2.1
  have xb := fO_exp nb.2.1
  have wa := fO_wu na.2.1
  generalize fO a = d1 at *
  generalize fO b = d2 at *
  generalize fO h = d3 at *
  generalize fO l = d4 at *
  obtain ⟨g1, V1, E1⟩ := d1
  obtain ⟨g2, V2, E2⟩ := d2
  obtain ⟨g3, V3, E3⟩ := d3
  obtain ⟨g4, V4, E4⟩ := d4
  replace HWa : Hid (∀ u, Calls Try.prog 12 #[.float .f64 a] u (NTold u ⟨g1, V1, E1⟩ 4)) := HWa
  replace HWb : Hid (∀ u, Calls Try.prog 12 #[.float .f64 b] u (NTold u ⟨g2, V2, E2⟩ 4)) := HWb
  replace HWh : Hid (∀ u, Calls Try.prog 12 #[.float .f64 h] u (NTold u ⟨g3, V3, E3⟩ 4)) := HWh
  replace HWl : Hid (∀ u, Calls Try.prog 12 #[.float .f64 l] u (NTold u ⟨g4, V4, E4⟩ 4)) := HWl
  have HWW : Hid (∀ u A m c es, Mn u V1 A m c es → m ≤ 4 → Calls Try.prog 15 #[.agg #[.float .f64 h, .float .f64 l], .agg #[.bool g1, .slice A m c, .int .i64 E1]] u (fun e w' => e = .returned (.bool true) ∧ Below u.heap.size u w')) := fun u A m c es hM hm => by
    have q1 : -1074 ≤ E1 := xa.1
    have q2 : E1 ≤ 1024 := xa.2
    refine whole_w nh nl (by omega) g1 A m c es E1 u hM.1 hM.2.1 (by omega) (by omega) (by omega) ?_
    rw [vhl, hM.2.2]
    exact wa
  have B3 : blen V3 ≤ 26 := bh
  have B4 : blen V4 ≤ 26 := bl
  have HB3 : Hid (∀ u A m c es, Mn u V3 A m c es → m ≤ 4 → Calls Try.prog 19 #[.slice A m c] u (fun e w' => e = .returned (.int .i64 (blen V3 : Int)) ∧ u = w')) := fun u A m c es hM hm => by
    have := rbits_any A m c es u hM.1 hM.2.1 (by omega)
    rw [hM.2.2] at this
    exact this
  have HB4 : Hid (∀ u A m c es, Mn u V4 A m c es → m ≤ 4 → Calls Try.prog 19 #[.slice A m c] u (fun e w' => e = .returned (.int .i64 (blen V4 : Int)) ∧ u = w')) := fun u A m c es hM hm => by
    have := rbits_any A m c es u hM.1 hM.2.1 (by omega)
    rw [hM.2.2] at this
    exact this
  generalize blen V3 = N3 at *
  generalize blen V4 = N4 at *
  have t3 : decide ((26 : Int) < (N3 : Int)) = false := decide_eq_false (by omega)
  have t4 : decide ((26 : Int) < (N4 : Int)) = false := decide_eq_false (by omega)
  obtain ⟨gm, hgm⟩ : ∃ x, (g1 ^^ g2) = x := ⟨_, rfl⟩
  obtain ⟨Vm, hVm⟩ : ∃ x, V1 * V2 = x := ⟨_, rfl⟩
  obtain ⟨Em, hEm⟩ : ∃ x, E1 + E2 = x := ⟨_, rfl⟩
  have hEb : -2148 ≤ Em ∧ Em ≤ 2048 := by
    have q1 : -1074 ≤ E1 := xa.1
    have q2 : E1 ≤ 1024 := xa.2
    have q3 : -1074 ≤ E2 := xb.1
    have q4 : E2 ≤ 1024 := xb.2
    omega
  have HM : Hid (∀ u A1 m1 c1 es1 A2 m2 c2 es2, Mn u V1 A1 m1 c1 es1 → Mn u V2 A2 m2 c2 es2 → m1 ≤ 4 → m2 ≤ 4 →
      Calls Try.prog 20 #[.agg #[.bool g1, .slice A1 m1 c1, .int .i64 E1], .agg #[.bool g2, .slice A2 m2 c2, .int .i64 E2]] u (NTold u ⟨gm, Vm, Em⟩ 9)) := fun u A1 m1 c1 es1 A2 m2 c2 es2 k1 k2 j1 j2 => by
    have := rmul9 g1 A1 m1 c1 es1 E1 g2 A2 m2 c2 es2 E2 u k1.1 k2.1 (by omega) (by omega) (by omega) (by omega)
    rw [k1.2.2, k2.2.2, hgm, hVm, hEm] at this
    refine this.mono ?_
    rintro e w' ⟨A5, m5, c5, rs, rfl, i1, i2⟩
    exact ⟨A5, m5, c5, rs, rfl, by omega, i2⟩
  obtain ⟨T, hT⟩ : ∃ x, rtop Vm Em = x := ⟨_, rfl⟩
  have HT : Hid (∀ u A m c es, Mn u Vm A m c es → m ≤ 9 → Calls Try.prog 21 #[.agg #[.bool gm, .slice A m c, .int .i64 Em]] u fun e w' => e = .returned (.int .i64 T) ∧ Below u.heap.size u w') := fun u A m c es k1 k4 =>
    rtop_l _ gm A m c es Em u k1.1 k1.2.1 (by omega) (by omega) (by omega) (by show _ = _; rw [k1.2.2]; exact hT)
  have key : (∃ g p r, g ≤ 1974 ∧ ProdEqs a b p r ∧ Nb (106 + g) p ∧ Nb (110 + g) r ∧ ∃ Q : Int, Q.natAbs ≤ 2 ^ (106 + g) ∧ fvI p = rn Q ∧ fvI p + fvI r = Q ∧ Wu ⟨gm, Vm, Em⟩ Q) → Hid (∃ p r, ProdEqs a b p r ∧ Hid (∀ u A3 m3 c3 es3, Mn u Vm A3 m3 c3 es3 → m3 ≤ 9 →
      Calls Try.prog 14 #[.float .f64 p, .agg #[.bool gm, .slice A3 m3 c3, .int .i64 Em]] u (fun e w' => e = .returned (.bool true) ∧ Below u.heap.size u w') ∧
      Calls Try.prog 15 #[.agg #[.float .f64 p, .float .f64 r], .agg #[.bool gm, .slice A3 m3 c3, .int .i64 Em]] u (fun e w' => e = .returned (.bool true) ∧ Below u.heap.size u w'))) := fun hh => by
    obtain ⟨g, p, r, i1, i2, i3, i4, Q, i5, i6, i7, i8⟩ := hh
    refine ⟨p, r, i2, fun u A3 m3 c3 es3 hM hm => ?_⟩
    have hW : Wu ⟨gm, D.val es3, Em⟩ Q := by rw [hM.2.2]; exact i8
    refine ⟨near_w i3 (by omega) i6 i5 gm A3 m3 c3 es3 Em u hM.1 hM.2.1 (by omega) (by omega) (by omega) hW, whole_w (i3.mono (by omega)) i4 (by omega) gm A3 m3 c3 es3 Em u hM.1 hM.2.1 (by omega) (by omega) (by omega) ?_⟩
    rw [i7]
    exact hW
  have KP : Hid ((Vm ≠ 0 ∧ T < -900) ∨ (Vm ≠ 0 ∧ ¬ T < -900 ∧ 1000 < T) ∨ (((Vm ≠ 0 ∧ ¬ T < -900 ∧ ¬ 1000 < T) ∨ Vm = 0) ∧ ∃ p r, ProdEqs a b p r ∧ Hid (∀ u A3 m3 c3 es3, Mn u Vm A3 m3 c3 es3 → m3 ≤ 9 →
      Calls Try.prog 14 #[.float .f64 p, .agg #[.bool gm, .slice A3 m3 c3, .int .i64 Em]] u (fun e w' => e = .returned (.bool true) ∧ Below u.heap.size u w') ∧
      Calls Try.prog 15 #[.agg #[.float .f64 p, .float .f64 r], .agg #[.bool gm, .slice A3 m3 c3, .int .i64 Em]] u (fun e w' => e = .returned (.bool true) ∧ Below u.heap.size u w')))) := by
    simp only [hgm, hVm, hEm, hT] at P1 P0
    by_cases z : Vm = 0
    · exact Or.inr (Or.inr ⟨Or.inr z, key (P0 z)⟩)
    · by_cases c1 : T < -900
      · exact Or.inl ⟨z, c1⟩
      · by_cases c2 : 1000 < T
        · exact Or.inr (Or.inl ⟨z, c1, c2⟩)
        · refine Or.inr (Or.inr ⟨Or.inl ⟨z, c1, c2⟩, key ?_⟩)
          rcases P1 z with h9 | h9 | h9
          · exact absurd h9 c1
          · exact absurd h9 c2
          · exact h9
  clear key P1 P0 hgm hVm hEm hEb hT xa xb wa hva hvb sa sb na nb ha hb hk nh nl vhl bh bl B3 B4 e1
  go_enter Try.func4, Try.ntmps4
  go_wp2_with fail
  refine HL.out.mono ?_
  rintro e w1 ⟨rfl, hB1⟩
  have cur := Lib.hid hB1
  clear hB1 HL
  go_wp2_with fail
  refine (R1.out _).mono ?_
  rintro e w2 ⟨rfl, hB⟩
  replace cur := Lib.hid (cur.out.trans (hB.mono cur.out.size))
  clear hB R1
  go_wp2_with fail
  refine (R2.out _).mono ?_
  rintro e w3 ⟨rfl, hB⟩
  replace cur := Lib.hid (cur.out.trans (hB.mono cur.out.size))
  clear hB R2
  go_wp2_with fail
  refine (SW.out _).mono ?_
  rintro e w4 ⟨rfl, hB⟩
  have b4 := cur.out.trans (hB.mono cur.out.size)
  have q4 : HoldQ w w4.heap.size h l [] (w4.alloc (.cells #[.float .f64 h, .float .f64 l] 33)) := ⟨Pb.new _ _ _, b4.trans ((below1 w4 _).mono b4.size), b4.size, (fun p hp => absurd hp (List.not_mem_nil)), List.Pairwise.nil⟩
  clear cur
  have cur := Lib.hid (q4.below (below_drew _))
  have F1 := q4.one.below (below_drew _)
  have F2 := q4.two.below (below_drew _)
  rw [World.size_alloc] at F1 F2
  have F1 := Lib.hid F1
  have F2 := Lib.hid F2
  clear hB SW b4 q4
  go_wp2_with fail
  go_cut [8, 9] from 12 (fun s8 s9 wx => ∃ (p q m1 c1 m2 c2 : Nat) (A1 A2 : Option Addr) (es1 es2 : List Nat), s8 = .pointer (some ⟨p, 0, none⟩) ∧ s9 = .pointer (some ⟨q, 0, none⟩) ∧ m1 ≤ 4 ∧ m2 ≤ 4 ∧ Hid (RelQ w w4.heap.size h l p g3 A1 m1 c1 E3 V3 es1 q g4 A2 m2 c2 E4 V4 es2 wx))
  case first =>
    go_region_held3 (fun u => u.cell? ⟨w4.heap.size, 0, none⟩ = some (.float .f64 h) ∧ u.cell? ⟨w4.heap.size, 1, none⟩ = some (.float .f64 l))
      (first | (with_reducible exact cur.out.both) | (with_reducible exact F1.out.both) | (with_reducible exact F2.out.both) | (with_reducible exact (cur.out.below (below1 _ _)).both) | (with_reducible exact (cur.out.below (below_two _ _ _)).both) | (with_reducible exact (cur.out.at1 _ _ _ _ _).both) | (with_reducible exact (cur.out.at2 _ _ _ _ _).both) | (with_reducible exact ((cur.out.at1 _ _ _ _ _).alloc _).both) | (with_reducible exact (cur.out.at12 _ _ _ _ _ _ _ _ _ _).both) | (with_reducible exact (cur.out.at21 _ _ _ _ _ _ _ _ _ _).both))
      (first
        | (go_at_call 12; (with_reducible refine (HWh.out _).mono ?_); rintro e u1 ⟨A1, m1, c1, es1, rfl, hm1, hl1, hd1, hv1, hB1⟩; (first | (with_reducible (replace L2 := Lib.hid (L2.out.below hB1))) | (with_reducible (replace L2 := Lib.hid ((L2.out.below (below1 _ (.cells #[.bool false, .slice none 0 0, .int .i64 0] 29))).below hB1))) | (with_reducible (replace L2 := Lib.hid ((L2.out.below (below_two _ (.cells #[.bool false, .slice none 0 0, .int .i64 0] 29) (.cells #[.bool false, .slice none 0 0, .int .i64 0] 29))).below hB1))) | skip); (first | (with_reducible (replace cur := Lib.hid (cur.out.below hB1))) | (with_reducible (replace cur := Lib.hid (cur.out.one.below hB1))) | (with_reducible (replace cur := Lib.hid (cur.out.two.below hB1))) | (with_reducible (replace cur := Lib.hid (F1.out.below hB1))) | (with_reducible (replace cur := Lib.hid (F2.out.below hB1)))); have L1 : Hid (Mn u1 V3 A1 m1 c1 es1) := ⟨hl1, hd1, hv1⟩; clear hl1 hd1 hv1 hB1; (first | (have kx := cur.out.first; have x0 := kx.c0; have x1 := kx.c1; have x2 := kx.c2; have xf := kx.fz; have xl := kx.lt; clear kx) | skip); (first | (have ky := cur.out.second; have y0 := ky.1.c0; have y1 := ky.1.c1; have y2 := ky.1.c2; have yf := ky.1.fz; have yl := ky.1.lt; have yx := ky.2; clear ky) | skip))
        | (go_at_call 12; (with_reducible refine (HWl.out _).mono ?_); rintro e u2 ⟨A2, m2, c2, es2, rfl, hm2, hl2, hd2, hv2, hB2⟩; (first | (with_reducible (replace L1 := Lib.hid (L1.out.below hB2))) | (with_reducible (replace L1 := Lib.hid ((L1.out.below (below1 _ (.cells #[.bool false, .slice none 0 0, .int .i64 0] 29))).below hB2))) | (with_reducible (replace L1 := Lib.hid ((L1.out.below (below_two _ (.cells #[.bool false, .slice none 0 0, .int .i64 0] 29) (.cells #[.bool false, .slice none 0 0, .int .i64 0] 29))).below hB2))) | skip); (first | (with_reducible (replace cur := Lib.hid (cur.out.below hB2))) | (with_reducible (replace cur := Lib.hid (cur.out.one.below hB2))) | (with_reducible (replace cur := Lib.hid (cur.out.two.below hB2))) | (with_reducible (replace cur := Lib.hid (F1.out.below hB2))) | (with_reducible (replace cur := Lib.hid (F2.out.below hB2)))); have L2 : Hid (Mn u2 V4 A2 m2 c2 es2) := ⟨hl2, hd2, hv2⟩; clear hl2 hd2 hv2 hB2; (first | (have kx := cur.out.first; have x0 := kx.c0; have x1 := kx.c1; have x2 := kx.c2; have xf := kx.fz; have xl := kx.lt; clear kx) | skip); (first | (have ky := cur.out.second; have y0 := ky.1.c0; have y1 := ky.1.c1; have y2 := ky.1.c2; have yf := ky.1.fz; have yl := ky.1.lt; have yx := ky.2; clear ky) | skip)))
    all_goals (go_wp2_with fail)
    all_goals go_meet
    all_goals (refine ⟨_, _, m1, c1, m2, c2, A1, A2, es1, es2, rfl, rfl, hm1, hm2, ?_⟩)
    all_goals (first
      | (have t := RelQ.new2 (g1 := g3) (E1 := E3) (g2 := g4) (E2 := E4) cur.out L1.out L2.out; (with_reducible exact Lib.hid t))
      | (have t := (RelQ.new2 (g1 := g4) (E1 := E4) (g2 := g3) (E2 := E3) cur.out L2.out L1.out).swap; (with_reducible exact Lib.hid t))
      | (have t := RelQ.new1 (g1 := g3) (E1 := E3) (g2 := g4) (E2 := E4) cur.out L1.out L2.out; (with_reducible exact Lib.hid t))
      | (have t := (RelQ.new1 (g1 := g4) (E1 := E4) (g2 := g3) (E2 := E3) cur.out L2.out L1.out).swap; (with_reducible exact Lib.hid t))
      | (have t := (RelQ.new0 (g1 := g3) (E1 := E3) (g2 := g4) (E2 := E4) cur.out L1.out L2.out).1; (with_reducible exact Lib.hid t))
      | (have t := (RelQ.new0 (g1 := g3) (E1 := E3) (g2 := g4) (E2 := E4) cur.out L1.out L2.out).2; (with_reducible exact Lib.hid t))
      | (have t := (RelQ.new0 (g1 := g4) (E1 := E4) (g2 := g3) (E2 := E3) cur.out L2.out L1.out).1.swap; (with_reducible exact Lib.hid t))
      | (have t := (RelQ.new0 (g1 := g4) (E1 := E4) (g2 := g3) (E2 := E3) cur.out L2.out L1.out).2.swap; (with_reducible exact Lib.hid t)))
  case rest =>
    obtain ⟨u0, rfl⟩ : ∃ u0, u0 = wc := ⟨_, rfl⟩
    obtain ⟨p, q, m1, c1, m2, c2, A1, A2, es1, es2, rfl, rfl, hm1, hm2, HR⟩ := hcut
    clear F1 F2 HWh HWl cur
    have cur := Lib.hid (HR.out.below (below_drew _))
    have x1 := Lib.hid cur.out.four
    clear HR
    go_wp2_with fail
    go_region_held3 (fun u => u.cell? ⟨w4.heap.size, 0, none⟩ = some (.float .f64 h) ∧ u.cell? ⟨w4.heap.size, 1, none⟩ = some (.float .f64 l) ∧ u.cell? ⟨p, 1, none⟩ = some (.slice A1 m1 c1) ∧ u.cell? ⟨q, 1, none⟩ = some (.slice A2 m2 c2))
      (with_reducible exact cur.out.four)
      (first
        | (go_at_call 12; (with_reducible refine (HWa.out _).mono ?_); rintro e u1 ⟨A3, m3, c3, es3, rfl, hm3, hl3, hd3, hv3, hB3⟩; (with_reducible (replace cur := Lib.hid (cur.out.below hB3))); have L3 : Hid (Mn u1 V1 A3 m3 c3 es3) := ⟨hl3, hd3, hv3⟩; clear hl3 hd3 hv3 hB3)
        | (go_at_call 15; (with_reducible refine (HWW.out _ A3 m3 c3 es3 L3.out hm3).mono ?_); rintro e u2 ⟨rfl, hB4⟩; (with_reducible (replace cur := Lib.hid (cur.out.below hB4))); clear hB4)
        | (go_at_call 19; (with_reducible refine (HB3.out _ A1 m1 c1 es1 cur.out.mem1 hm1).mono ?_); rintro e w' ⟨rfl, rfl⟩)
        | (go_at_call 19; (with_reducible refine (HB4.out _ A2 m2 c2 es2 cur.out.mem2 hm2).mono ?_); rintro e w' ⟨rfl, rfl⟩))
    clear HWW HB3 HB4 t3 t4 fa fb L3 hm1 hm2 hm3
    have curB := Lib.hid cur.out.2.1
    clear cur x1
    go_wp2_with fail
    refine (HWa.out _).mono ?_
    rintro e u3 ⟨A5, m5, c5, es5, rfl, hm5, hl5, hd5, hv5, hB⟩
    replace curB := Lib.hid (curB.out.trans (hB.mono curB.out.size))
    have L5 : Hid (Mn u3 V1 A5 m5 c5 es5) := ⟨hl5, hd5, hv5⟩
    clear hB hl5 hd5 hv5 HWa
    go_wp2_with fail
    refine (HWb.out _).mono ?_
    rintro e u4 ⟨A6, m6, c6, es6, rfl, hm6, hl6, hd6, hv6, hB⟩
    replace curB := Lib.hid (curB.out.trans (hB.mono curB.out.size))
    replace L5 := Lib.hid (L5.out.below hB)
    have L6 : Hid (Mn u4 V2 A6 m6 c6 es6) := ⟨hl6, hd6, hv6⟩
    clear hB hl6 hd6 hv6 HWb
    go_wp2_with fail
    refine (HM.out u4 A5 m5 c5 es5 A6 m6 c6 es6 L5.out L6.out hm5 hm6).mono ?_
    rintro e u5 ⟨A7, m7, c7, es7, rfl, hm7, hl7, hd7, hv7, hB⟩
    replace curB := Lib.hid (curB.out.trans (hB.mono curB.out.size))
    have k7 := Lib.hid (Bd.new u5 29 gm A7 m7 c7 Em)
    have hv7' : D.val es7 = Vm := hv7
    have hz7 : m7 = 0 ↔ Vm = 0 := by rw [← hv7']; exact dnil_iff hl7 hd7
    have L7 : Hid (Mn (u5.alloc (.cells #[.bool gm, .slice A7 m7 c7, .int .i64 Em] 29)) Vm A7 m7 c7 es7) := Mn.below ⟨hl7, hd7, hv7⟩ (below1 _ _)
    replace curB := Lib.hid (curB.out.trans ((below1 u5 (.cells #[.bool gm, .slice A7 m7 c7, .int .i64 Em] 29)).mono curB.out.size))
    clear hB hl7 hd7 hv7 hv7' HM L5 L6 hm5 hm6
    rcases KP.out with ⟨z, t1⟩ | ⟨z, t1, t2⟩ | ⟨hz, p2, r2, pe, K2⟩
    · have d0 : decide (0 < m7) = true := decide_eq_true (by omega)
      have d1 : decide ((0 : Int) < (m7 : Int)) = true := decide_eq_true (by omega)
      have d2 : decide (T < -900) = true := decide_eq_true t1
      clear z t1 hz7
      go_wp2_with fail
      refine (HT.out _ A7 m7 c7 es7 L7.out hm7).mono ?_
      rintro e u6 ⟨rfl, hB⟩
      replace curB := Lib.hid (curB.out.trans (hB.mono curB.out.size))
      clear hB k7 L7 HT KP
      go_wp2
      go_ret
      exact ⟨rfl, curB.out⟩
    · have d0 : decide (0 < m7) = true := decide_eq_true (by omega)
      have d1 : decide ((0 : Int) < (m7 : Int)) = true := decide_eq_true (by omega)
      have d2 : decide (T < -900) = false := decide_eq_false (by omega)
      have d3 : decide (1000 < T) = true := decide_eq_true t2
      clear z t1 t2 hz7
      go_wp2_with fail
      refine (HT.out _ A7 m7 c7 es7 L7.out hm7).mono ?_
      rintro e u6 ⟨rfl, hB⟩
      replace curB := Lib.hid (curB.out.trans (hB.mono curB.out.size))
      replace L7 := Lib.hid (L7.out.below hB)
      replace k7 := Lib.hid (k7.out.below hB)
      have x0 := k7.out.c0
      have x1 := k7.out.c1
      have x2 := k7.out.c2
      clear hB
      go_wp2_with fail
      refine (HT.out _ A7 m7 c7 es7 L7.out hm7).mono ?_
      rintro e u7 ⟨rfl, hB⟩
      replace curB := Lib.hid (curB.out.trans (hB.mono curB.out.size))
      clear hB k7 L7 HT KP x0 x1 x2
      go_wp2
      go_ret
      exact ⟨rfl, curB.out⟩
    · have PW := Lib.hid (prod_w pe)
      clear pe KP
      rcases hz with ⟨z, t1, t2⟩ | z
      · have hL7 : Hid (D.Bare es7 ∧ D.val es7 = Vm) := L7.out.2
        have d0 : decide (0 < m7) = true := decide_eq_true (by omega)
        have d1 : decide ((0 : Int) < (m7 : Int)) = true := decide_eq_true (by omega)
        have d2 : decide (T < -900) = false := decide_eq_false (by omega)
        have d3 : decide (1000 < T) = false := decide_eq_false (by omega)
        clear z t1 t2 hz7
        go_wp2_with fail
        refine (HT.out _ A7 m7 c7 es7 L7.out hm7).mono ?_
        rintro e u6 ⟨rfl, hB⟩
        replace curB := Lib.hid (curB.out.trans (hB.mono curB.out.size))
        replace L7 := Lib.hid (L7.out.below hB)
        replace k7 := Lib.hid (k7.out.below hB)
        have x0 := k7.out.c0
        have x1 := k7.out.c1
        have x2 := k7.out.c2
        clear hB
        go_wp2_with fail
        refine (HT.out _ A7 m7 c7 es7 L7.out hm7).mono ?_
        rintro e u7 ⟨rfl, hB⟩
        have curK : Hid (HoldN9 w u5.heap.size gm A7 m7 c7 es7 Em u7) := ⟨k7.out.below hB, (L7.out.below hB).1, curB.out.trans (hB.mono curB.out.size)⟩
        clear hB L7 HT x0 x1 x2 curB
        clear k7
        go_wp2_with fail
        refine (PW.out _).mono ?_
        rintro e u8 ⟨rfl, hB⟩
        replace curK := Lib.hid (curK.out.below hB)
        have H0 : HoldS w u5.heap.size gm A7 m7 c7 es7 Em u8.heap.size p2 r2 (u8.alloc (.cells #[.float .f64 p2, .float .f64 r2] 33)) :=
          ⟨curK.out.1.alloc _, curK.out.2.1.alloc _, Pb.new _ _ _, curK.out.2.2.trans ((below1 u8 _).mono curK.out.2.2.size)⟩
        have x0 := curK.out.1.c0
        have x1 := curK.out.1.c1
        have x2 := curK.out.1.c2
        have xl := curK.out.1.lt
        clear curK hB PW
        have cur := Lib.hid H0
        clear H0
        go_wp2_with fail
        refine ((K2.out _ A7 m7 c7 es7 ⟨cur.out.2.1, hL7.out⟩ hm7).1).mono ?_
        rintro e u9 ⟨rfl, hB⟩
        replace cur := Lib.hid (cur.out.below hB)
        clear hB x0 x1 x2 xl
        have x0 := cur.out.1.c0
        have x1 := cur.out.1.c1
        have x2 := cur.out.1.c2
        have y0 := cur.out.2.2.1.c0
        have y1 := cur.out.2.2.1.c1
        go_wp2_with fail
        refine ((K2.out _ A7 m7 c7 es7 ⟨cur.out.2.1, hL7.out⟩ hm7).2).mono ?_
        rintro e u10 ⟨rfl, hB⟩
        replace cur := Lib.hid (cur.out.below hB)
        clear hB x0 x1 x2 y0 y1 K2
        go_wp2
        go_ret
        exact ⟨rfl, cur.out.2.2.2⟩
      · have hL7 : Hid (D.Bare es7 ∧ D.val es7 = Vm) := L7.out.2
        obtain rfl : m7 = 0 := hz7.2 z
        have curK : Hid (HoldN9 w u5.heap.size gm A7 0 c7 es7 Em _) := ⟨k7.out, L7.out.1, curB.out⟩
        clear z hz7 L7 HT curB
        clear k7
        go_wp2_with fail
        refine (PW.out _).mono ?_
        rintro e u8 ⟨rfl, hB⟩
        replace curK := Lib.hid (curK.out.below hB)
        have H0 : HoldS w u5.heap.size gm A7 0 c7 es7 Em u8.heap.size p2 r2 (u8.alloc (.cells #[.float .f64 p2, .float .f64 r2] 33)) :=
          ⟨curK.out.1.alloc _, curK.out.2.1.alloc _, Pb.new _ _ _, curK.out.2.2.trans ((below1 u8 _).mono curK.out.2.2.size)⟩
        have x0 := curK.out.1.c0
        have x1 := curK.out.1.c1
        have x2 := curK.out.1.c2
        have xl := curK.out.1.lt
        clear curK hB PW
        have cur := Lib.hid H0
        clear H0
        go_wp2_with fail
        refine ((K2.out _ A7 0 c7 es7 ⟨cur.out.2.1, hL7.out⟩ hm7).1).mono ?_
        rintro e u9 ⟨rfl, hB⟩
        replace cur := Lib.hid (cur.out.below hB)
        clear hB x0 x1 x2 xl
        have x0 := cur.out.1.c0
        have x1 := cur.out.1.c1
        have x2 := cur.out.1.c2
        have y0 := cur.out.2.2.1.c0
        have y1 := cur.out.2.2.1.c1
        go_wp2_with fail
        refine ((K2.out _ A7 0 c7 es7 ⟨cur.out.2.1, hL7.out⟩ hm7).2).mono ?_
        rintro e u10 ⟨rfl, hB⟩
        replace cur := Lib.hid (cur.out.below hB)
        clear hB x0 x1 x2 y0 y1 K2
        go_wp2
        go_ret
        exact ⟨rfl, cur.out.2.2.2⟩

theorem walk_ddProds (a0 a1 : Int) (w : World) (h0 : 0 ≤ a0) (h1 : a0 ≤ 18446744073709551615) (h2 : 0 ≤ a1) (h3 : a1 ≤ 18446744073709551615) :
    Calls Try.prog 4 #[.int .u64 a0, .int .u64 a1] w fun e w' => e = .returned (.bool true) ∧ Below w.heap.size w w' := by
  obtain ⟨a, rfl⟩ := Int.eq_ofNat_of_zero_le h0
  obtain ⟨b, rfl⟩ := Int.eq_ofNat_of_zero_le h2
  by_cases hs : Sf a ∧ Sf b
  · exact ddProds_yes a b (by omega) (by omega) hs.1 hs.2 w
  · exact ddProds_no a b (by omega) (by omega) hs w
end Go.Proofs.Ytfccpjjdemanbaa
