/- The walk of DdPairs (written by law_dpairs.py). -/
import Derived.Test.YtfccpjjdemanbaaDdPairN
import Derived.Deep.CutBlock
namespace Go.Proofs.Ytfccpjjdemanbaa
open Go.RowKit

theorem HoldR.both9 {u0 u : World} {bs : List Nat} {b h l : Nat} (hp : Pb u0 b h l) (hh : HoldR u0 bs u) : u.cell? ⟨b, 0, none⟩ = some (.float .f64 h) ∧ u.cell? ⟨b, 1, none⟩ = some (.float .f64 l) := (hp.below hh.1).both
theorem HoldR.both9P {u0 u : World} {bs : List Nat} {b h l X : Nat} (hp : Pb u0 b h l) (hh : HoldR u0 (X :: bs) u) (g' : Bool) (A' : Option Addr) (n' c' : Nat) (e' : Int) : (World.put u X g' A' n' c' e').cell? ⟨b, 0, none⟩ = some (.float .f64 h) ∧ (World.put u X g' A' n' c' e').cell? ⟨b, 1, none⟩ = some (.float .f64 l) := (hp.below (hh.put g' A' n' c' e')).both
/-- Both pairs, both numbers. -/
structure HoldZ (w0 : World) (bx xh xl by_ yh yl p : Nat) (g1 : Bool) (A1 : Option Addr) (m1 c1 : Nat) (E1 : Int) (V1 : Nat) (es1 : List Nat) (q : Nat) (g2 : Bool) (A2 : Option Addr) (m2 c2 : Nat) (E2 : Int) (V2 : Nat) (es2 : List Nat) (w : World) : Prop where
  px : Pb w bx xh xl
  py : Pb w by_ yh yl
  bp : Bd w p 29 g1 A1 m1 c1 E1
  mp : Mn w V1 A1 m1 c1 es1
  bq : Bd w q 29 g2 A2 m2 c2 E2
  mq : Mn w V2 A2 m2 c2 es2
  old : Below w0.heap.size w0 w
theorem HoldZ.below {w0 : World} {bx xh xl by_ yh yl p : Nat} {g1 : Bool} {A1 : Option Addr} {m1 c1 : Nat} {E1 : Int} {V1 : Nat} {es1 : List Nat} {q : Nat} {g2 : Bool} {A2 : Option Addr} {m2 c2 : Nat} {E2 : Int} {V2 : Nat} {es2 : List Nat} {w w' : World} (h : HoldZ w0 bx xh xl by_ yh yl p g1 A1 m1 c1 E1 V1 es1 q g2 A2 m2 c2 E2 V2 es2 w) (hb : Below w.heap.size w w') : HoldZ w0 bx xh xl by_ yh yl p g1 A1 m1 c1 E1 V1 es1 q g2 A2 m2 c2 E2 V2 es2 w' :=
  ⟨h.px.below hb, h.py.below hb, h.bp.below hb, h.mp.below hb, h.bq.below hb, h.mq.below hb, h.old.trans (hb.mono h.old.size)⟩

/-- The pairs told, both numbers. -/
structure HoldY9 (w0 : World) (bx xh xl by_ yh yl p : Nat) (g1 : Bool) (A1 : Option Addr) (m1 c1 : Nat) (E1 : Int) (V1 : Nat) (es1 : List Nat) (q : Nat) (g2 : Bool) (A2 : Option Addr) (m2 c2 : Nat) (E2 : Int) (V2 : Nat) (es2 : List Nat) (w : World) : Prop where
  px : Pb w bx xh xl
  py : Pb w by_ yh yl
  bp : Bd w p 29 g1 A1 m1 c1 E1
  mp : Mn w V1 A1 m1 c1 es1
  bq : Bd w q 29 g2 A2 m2 c2 E2
  mq : Mn w V2 A2 m2 c2 es2
  old : Below w0.heap.size w0 w
section
variable {w0 : World} {bx xh xl by_ yh yl p : Nat} {g1 : Bool} {A1 : Option Addr} {m1 c1 : Nat} {E1 : Int} {V1 : Nat} {es1 : List Nat} {q : Nat} {g2 : Bool} {A2 : Option Addr} {m2 c2 : Nat} {E2 : Int} {V2 : Nat} {es2 : List Nat} {w w' : World}
theorem HoldY9.below (h : HoldY9 w0 bx xh xl by_ yh yl p g1 A1 m1 c1 E1 V1 es1 q g2 A2 m2 c2 E2 V2 es2 w) (hb : Below w.heap.size w w') : HoldY9 w0 bx xh xl by_ yh yl p g1 A1 m1 c1 E1 V1 es1 q g2 A2 m2 c2 E2 V2 es2 w' :=
  ⟨h.px.below hb, h.py.below hb, h.bp.below hb, h.mp.below hb, h.bq.below hb, h.mq.below hb, h.old.trans (hb.mono h.old.size)⟩
theorem HoldY9.ten (h : HoldY9 w0 bx xh xl by_ yh yl p g1 A1 m1 c1 E1 V1 es1 q g2 A2 m2 c2 E2 V2 es2 w) : w.cell? ⟨bx, 0, none⟩ = some (.float .f64 xh) ∧ w.cell? ⟨bx, 1, none⟩ = some (.float .f64 xl) ∧ w.cell? ⟨by_, 0, none⟩ = some (.float .f64 yh) ∧ w.cell? ⟨by_, 1, none⟩ = some (.float .f64 yl) ∧ w.cell? ⟨p, 0, none⟩ = some (.bool g1) ∧ w.cell? ⟨p, 1, none⟩ = some (.slice A1 m1 c1) ∧ w.cell? ⟨p, 2, none⟩ = some (.int .i64 E1) ∧ w.cell? ⟨q, 0, none⟩ = some (.bool g2) ∧ w.cell? ⟨q, 1, none⟩ = some (.slice A2 m2 c2) ∧ w.cell? ⟨q, 2, none⟩ = some (.int .i64 E2) :=
  ⟨h.px.c0, h.px.c1, h.py.c0, h.py.c1, h.bp.c0, h.bp.c1, h.bp.c2, h.bq.c0, h.bq.c1, h.bq.c2⟩
end

set_option maxRecDepth 20000 in
set_option maxHeartbeats 4000000 in
theorem ddPairs_yes (a : Nat) (b : Nat) (c : Nat) (d : Nat) (ha : a < 18446744073709551616) (hb : b < 18446744073709551616) (hc : c < 18446744073709551616) (hd : d < 18446744073709551616) (sa : Sf a) (sb : Sf b) (sc : Sf c) (sd : Sf d) (w : World) :
    Calls Try.prog 5 #[.int .u64 (a : Int), .int .u64 (b : Int), .int .u64 (c : Int), .int .u64 (d : Int)] w fun e w' => e = .returned (.bool true) ∧ Below w.heap.size w w' := by
  obtain ⟨k, hk⟩ : ∃ k, k = 1675 := ⟨_, rfl⟩
  obtain ⟨xh, xl, M, e1, nxh, nxl, M0, hM, rM, bM, gM, lM⟩ := pair_of hk sa sb
  obtain ⟨yh, yl, N, e2, nyh, nyl, N0, hN, rN_, bN, gN, lN⟩ := pair_of hk sc sd
  obtain ⟨⟨g1, V1, E1⟩, o1, o2, o3, o4, o5⟩ := sum_o nxh nxl
  obtain ⟨⟨g2, V2, E2⟩, p1, p2, p3, p4, p5⟩ := sum_o nyh nyl
  rw [← hM] at o1
  rw [← hN] at p1
  obtain ⟨sh_, sl, ⟨g3, V3, E3⟩, q1, q2, q3, q4⟩ := pairs_sum (k := k + 1) (by omega) nxh nxl nyh nyl M0 N0 hM hN bM bN lM lN o1 p1 o3 o4 p3 p4
  obtain ⟨far, hfar⟩ : ∃ x, farB V1 V2 E1 E2 = x := ⟨_, rfl⟩
  have PM : Hid (far = true ∨ (far = false ∧ ∃ hi lo : Nat, MulEqs xh xl yh yl hi lo ∧ Wth hi lo 98 (g1 ^^ g2) (V1 * V2) (E1 + E2))) := by
    cases hf : far
    · refine Or.inr ⟨rfl, pairs_mul (k := k + 1) (by omega) nxh nxl nyh nyl M0 N0 hM hN rM rN_ gM gN bM bN o1 p1 o3 o4 p3 p4 (hfar.trans hf)⟩
    · exact Or.inl rfl
  have HL := Lib.hid (dalive_any w)
  have Ra := Lib.hid (fun u => rsafe_l true a ha u (decide_eq_true sa))
  have fa := frombits_e a
  have Aa := Lib.hid (abs_w a ha)
  have Rb := Lib.hid (fun u => rsafe_l true b hb u (decide_eq_true sb))
  have fb := frombits_e b
  have Ab := Lib.hid (abs_w b hb)
  have Rc := Lib.hid (fun u => rsafe_l true c hc u (decide_eq_true sc))
  have fc := frombits_e c
  have Ac := Lib.hid (abs_w c hc)
  have Rd := Lib.hid (fun u => rsafe_l true d hd u (decide_eq_true sd))
  have fd := frombits_e d
  have Ad := Lib.hid (abs_w d hd)
  have S1 := Lib.hid (sum_w e1)
  have S2 := Lib.hid (sum_w e2)
  have AW := Lib.hid (add_w q1)
  have HWa := Lib.hid (worth_w xh nxh.1)
  have HWb := Lib.hid (worth_w xl nxl.1)
  have HWc := Lib.hid (worth_w yh nyh.1)
  have HWd := Lib.hid (worth_w yl nyl.1)
  have HA1 : Hid (∀ u A1 m1 c1 es1 A2 m2 c2 es2, Mn u (fO xh).V A1 m1 c1 es1 → Mn u (fO xl).V A2 m2 c2 es2 → m1 ≤ 4 → m2 ≤ 4 →
      Calls Try.prog 11 #[.agg #[.bool (fO xh).neg, .slice A1 m1 c1, .int .i64 (fO xh).e], .agg #[.bool (fO xl).neg, .slice A2 m2 c2, .int .i64 (fO xl).e]] u (NTold u ⟨g1, V1, E1⟩ 106)) := fun u A1 m1 c1 es1 A2 m2 c2 es2 k1 k2 m1 m2 => by
    refine (o5 A1 _ c1 es1 A2 _ c2 es2 u k1.1 k2.1 k1.2.1 k2.2.1 (by omega) (by omega) k1.2.2 k2.2.2).mono ?_
    rintro e w' ⟨A5, m5, c5, rs, rfl, j1, j2, j3, j4, j5⟩
    exact ⟨A5, m5, c5, rs, rfl, Mn.len (k := k + 1 + 1) ⟨j2, j3, j4⟩ o2 (by omega), j2, j3, j4, j5⟩
  have HA2 : Hid (∀ u A1 m1 c1 es1 A2 m2 c2 es2, Mn u (fO yh).V A1 m1 c1 es1 → Mn u (fO yl).V A2 m2 c2 es2 → m1 ≤ 4 → m2 ≤ 4 →
      Calls Try.prog 11 #[.agg #[.bool (fO yh).neg, .slice A1 m1 c1, .int .i64 (fO yh).e], .agg #[.bool (fO yl).neg, .slice A2 m2 c2, .int .i64 (fO yl).e]] u (NTold u ⟨g2, V2, E2⟩ 106)) := fun u A1 m1 c1 es1 A2 m2 c2 es2 k1 k2 m1 m2 => by
    refine (p5 A1 _ c1 es1 A2 _ c2 es2 u k1.1 k2.1 k1.2.1 k2.2.1 (by omega) (by omega) k1.2.2 k2.2.2).mono ?_
    rintro e w' ⟨A5, m5, c5, rs, rfl, j1, j2, j3, j4, j5⟩
    exact ⟨A5, m5, c5, rs, rfl, Mn.len (k := k + 1 + 1) ⟨j2, j3, j4⟩ p2 (by omega), j2, j3, j4, j5⟩
  have HS : Hid (∀ u A1 m1 c1 es1 A2 m2 c2 es2, Mn u V1 A1 m1 c1 es1 → Mn u V2 A2 m2 c2 es2 → m1 ≤ 106 → m2 ≤ 106 →
      Calls Try.prog 11 #[.agg #[.bool g1, .slice A1 m1 c1, .int .i64 E1], .agg #[.bool g2, .slice A2 m2 c2, .int .i64 E2]] u (NTold u ⟨g3, V3, E3⟩ 110)) := fun u A1 m1 c1 es1 A2 m2 c2 es2 k1 k2 m1 m2 => by
    refine (q2 A1 _ c1 es1 A2 _ c2 es2 u k1.1 k2.1 k1.2.1 k2.2.1 (by omega) (by omega) k1.2.2 k2.2.2).mono ?_
    rintro e w' ⟨A5, m5, c5, rs, rfl, j1, j2, j3, j4, j5⟩
    exact ⟨A5, m5, c5, rs, rfl, Mn.len (k := k + 1 + 1) ⟨j2, j3, j4⟩ q3 (by omega), j2, j3, j4, j5⟩
  have HW100 : Hid (∀ (A : Option Addr) (n c : Nat) (ds : List Nat) (u : World), Mn u V3 A n c ds → n ≤ 240 → Calls Try.prog 26 #[.agg #[.float .f64 sh_, .float .f64 sl], .agg #[.bool g3, .slice A n c, .int .i64 E3], .int .i64 100] u fun e w' => e = .returned (.bool true) ∧ Below u.heap.size u w') := q4
  have HFar : Hid (∀ u A1 m1 c1 es1 A2 m2 c2 es2, Mn u V1 A1 m1 c1 es1 → Mn u V2 A2 m2 c2 es2 → m1 ≤ 106 → m2 ≤ 106 →
      Calls Try.prog 27 #[.agg #[.bool g1, .slice A1 m1 c1, .int .i64 E1], .agg #[.bool g2, .slice A2 m2 c2, .int .i64 E2]] u (fun e w' => e = .returned (.bool far) ∧ Below u.heap.size u w')) := fun u A1 m1 c1 es1 A2 m2 c2 es2 k1 k2 j1 j2 => by
    have i1 : -1074 ≤ E1 := o3
    have i2 : E1 ≤ 1024 := o4
    have i3 : -1074 ≤ E2 := p3
    have i4 : E2 ≤ 1024 := p4
    exact far_w far g1 A1 m1 c1 es1 E1 g2 A2 m2 c2 es2 E2 u k1.1 k2.1 k1.2.1 k2.2.1 (by omega) (by omega) (by omega) (by omega) (by omega) (by omega) (by rw [k1.2.2, k2.2.2]; exact hfar)
  obtain ⟨gm, hgm⟩ : ∃ x, (g1 ^^ g2) = x := ⟨_, rfl⟩
  obtain ⟨Vm, hVm⟩ : ∃ x, V1 * V2 = x := ⟨_, rfl⟩
  obtain ⟨Em, hEm⟩ : ∃ x, E1 + E2 = x := ⟨_, rfl⟩
  rw [hgm, hVm, hEm] at PM
  have HM : Hid (∀ u A1 m1 c1 es1 A2 m2 c2 es2, Mn u V1 A1 m1 c1 es1 → Mn u V2 A2 m2 c2 es2 → m1 ≤ 106 → m2 ≤ 106 →
      Calls Try.prog 20 #[.agg #[.bool g1, .slice A1 m1 c1, .int .i64 E1], .agg #[.bool g2, .slice A2 m2 c2, .int .i64 E2]] u (NTold u ⟨gm, Vm, Em⟩ 213)) := fun u A1 m1 c1 es1 A2 m2 c2 es2 k1 k2 j1 j2 => by
    have i1 : -1074 ≤ E1 := o3
    have i2 : E1 ≤ 1024 := o4
    have i3 : -1074 ≤ E2 := p3
    have i4 : E2 ≤ 1024 := p4
    have := rmul9 g1 A1 m1 c1 es1 E1 g2 A2 m2 c2 es2 E2 u k1.1 k2.1 (by omega) (by omega) (by omega) (by omega)
    rw [k1.2.2, k2.2.2, hgm, hVm, hEm] at this
    refine this.mono ?_
    rintro e w' ⟨A5, m5, c5, rs, rfl, i5, i6⟩
    exact ⟨A5, m5, c5, rs, rfl, by omega, i6⟩
  generalize fO xh = d1 at *
  generalize fO xl = d2 at *
  generalize fO yh = d3 at *
  generalize fO yl = d4 at *
  obtain ⟨ga, Va, Ea⟩ := d1
  obtain ⟨gb, Vb, Eb⟩ := d2
  obtain ⟨gc, Vc, Ec⟩ := d3
  obtain ⟨gd, Vd, Ed⟩ := d4
  replace HWa : Hid (∀ u, Calls Try.prog 12 #[.float .f64 xh] u (NTold u ⟨ga, Va, Ea⟩ 4)) := HWa
  replace HWb : Hid (∀ u, Calls Try.prog 12 #[.float .f64 xl] u (NTold u ⟨gb, Vb, Eb⟩ 4)) := HWb
  replace HWc : Hid (∀ u, Calls Try.prog 12 #[.float .f64 yh] u (NTold u ⟨gc, Vc, Ec⟩ 4)) := HWc
  replace HWd : Hid (∀ u, Calls Try.prog 12 #[.float .f64 yl] u (NTold u ⟨gd, Vd, Ed⟩ 4)) := HWd
  replace HA1 : Hid (∀ u A1 m1 c1 es1 A2 m2 c2 es2, Mn u Va A1 m1 c1 es1 → Mn u Vb A2 m2 c2 es2 → m1 ≤ 4 → m2 ≤ 4 →
      Calls Try.prog 11 #[.agg #[.bool ga, .slice A1 m1 c1, .int .i64 Ea], .agg #[.bool gb, .slice A2 m2 c2, .int .i64 Eb]] u (NTold u ⟨g1, V1, E1⟩ 106)) := HA1
  replace HA2 : Hid (∀ u A1 m1 c1 es1 A2 m2 c2 es2, Mn u Vc A1 m1 c1 es1 → Mn u Vd A2 m2 c2 es2 → m1 ≤ 4 → m2 ≤ 4 →
      Calls Try.prog 11 #[.agg #[.bool gc, .slice A1 m1 c1, .int .i64 Ec], .agg #[.bool gd, .slice A2 m2 c2, .int .i64 Ed]] u (NTold u ⟨g2, V2, E2⟩ 106)) := HA2
  generalize a % 9223372036854775808 = za at *
  generalize b % 9223372036854775808 = zb at *
  generalize c % 9223372036854775808 = zc at *
  generalize d % 9223372036854775808 = zd at *
  clear hgm hVm hEm hfar e1 e2 nxh nxl nyh nyl M0 N0 hM hN rM rN_ bM bN gM gN lM lN o1 o2 o3 o4 o5 p1 p2 p3 p4 p5 q1 q2 q3 q4 sa sb sc sd ha hb hc hd hk
  go_enter Try.func5, Try.ntmps5
  go_wp2_with fail
  refine HL.out.mono ?_
  rintro e w1 ⟨rfl, hB⟩
  have cur := Lib.hid hB
  clear hB HL
  go_wp2_with fail
  refine (Ra.out _).mono ?_
  rintro e w2 ⟨rfl, hB⟩
  replace cur := Lib.hid (cur.out.trans (hB.mono cur.out.size))
  clear hB
  go_wp2_with fail
  refine (Rb.out _).mono ?_
  rintro e w3 ⟨rfl, hB⟩
  replace cur := Lib.hid (cur.out.trans (hB.mono cur.out.size))
  clear hB
  go_wp2_with fail
  refine (Rc.out _).mono ?_
  rintro e w4 ⟨rfl, hB⟩
  replace cur := Lib.hid (cur.out.trans (hB.mono cur.out.size))
  clear hB
  go_wp2_with fail
  refine (Rd.out _).mono ?_
  rintro e w5 ⟨rfl, hB⟩
  replace cur := Lib.hid (cur.out.trans (hB.mono cur.out.size))
  clear hB
  clear Ra Rb Rc Rd
  go_wp2_with fail
  refine (Aa.out _).mono ?_
  rintro e w' ⟨rfl, rfl⟩
  go_wp2_with fail
  refine (Ab.out _).mono ?_
  rintro e w' ⟨rfl, rfl⟩
  go_wp2_with fail
  refine (S1.out _).mono ?_
  rintro e w6 ⟨rfl, hB⟩
  replace cur := Lib.hid (cur.out.trans (hB.mono cur.out.size))
  have X0 := Lib.hid (Pb.new w6 xh xl)
  replace cur := Lib.hid (cur.out.trans ((below1 w6 (.cells #[.float .f64 xh, .float .f64 xl] 33)).mono cur.out.size))
  clear hB S1 Aa Ab
  go_wp2_with fail
  refine (Ac.out _).mono ?_
  rintro e w' ⟨rfl, rfl⟩
  go_wp2_with fail
  refine (Ad.out _).mono ?_
  rintro e w' ⟨rfl, rfl⟩
  go_wp2_with fail
  refine (S2.out _).mono ?_
  rintro e w7 ⟨rfl, hB⟩
  replace cur := Lib.hid (cur.out.trans (hB.mono cur.out.size))
  replace X0 := Lib.hid ((X0.out.below hB).alloc (.cells #[.float .f64 yh, .float .f64 yl] 33))
  have Y0 := Lib.hid (Pb.new w7 yh yl)
  replace cur := Lib.hid (cur.out.trans ((below1 w7 (.cells #[.float .f64 yh, .float .f64 yl] 33)).mono cur.out.size))
  clear hB S2 Ac Ad fa fb fc fd
  have hz7 : (w7.alloc (.cells #[.float .f64 yh, .float .f64 yl] 33)).heap.size = w7.heap.size + 1 := by simp
  have OLD := cur
  clear cur
  have cur := Lib.hid ((HoldR.start (w7.alloc (.cells #[.float .f64 yh, .float .f64 yl] 33))).below (below_drew _))
  have F1 := (HoldR.start (w7.alloc (.cells #[.float .f64 yh, .float .f64 yl] 33))).one.below (below_drew _)
  rw [hz7] at F1
  have F1 := Lib.hid F1
  go_wp2_with fail
  go_cut [11] from 15 (fun s7 wx => ∃ (p m4 c4 : Nat) (A4 : Option Addr) (es4 : List Nat), s7 = .pointer (some ⟨p, 0, none⟩) ∧ m4 ≤ 106 ∧ Hid (RelR (w7.alloc (.cells #[.float .f64 yh, .float .f64 yl] 33)) p g1 A4 m4 c4 E1 V1 es4 wx))
  case first =>
    go_region_held3 (fun u => u.cell? ⟨w6.heap.size, 0, none⟩ = some (.float .f64 xh) ∧ u.cell? ⟨w6.heap.size, 1, none⟩ = some (.float .f64 xl))
      (first | (with_reducible exact HoldR.both9 X0.out cur.out) | (with_reducible exact HoldR.both9 X0.out F1.out) | (with_reducible exact HoldR.both9 X0.out (cur.out.below (below1 _ _))) | (with_reducible exact HoldR.both9P X0.out cur.out _ _ _ _ _))
      (first
        | (go_at_call 12; (with_reducible refine (HWa.out _).mono ?_); rintro e wa ⟨A1, m1, c1, es1, rfl, hm1, hl1, hd1, hv1, hB1⟩; (first | (with_reducible (replace cur := Lib.hid (cur.out.below hB1))) | (with_reducible (replace cur := Lib.hid (cur.out.one.below hB1))) | (with_reducible (replace cur := Lib.hid (F1.out.below hB1)))); have L1 : Hid (Mn wa Va A1 m1 c1 es1) := ⟨hl1, hd1, hv1⟩; clear hl1 hd1 hv1 hB1)
        | (go_at_call 12; (with_reducible refine (HWb.out _).mono ?_); rintro e wb ⟨A2, m2, c2, es2, rfl, hm2, hl2, hd2, hv2, hB2⟩; (first | (with_reducible (replace cur := Lib.hid (cur.out.below hB2))) | (with_reducible (replace cur := Lib.hid (cur.out.one.below hB2))) | (with_reducible (replace cur := Lib.hid (F1.out.below hB2)))); (first | (with_reducible (replace L1 := Lib.hid (L1.out.below hB2))) | (with_reducible (replace L1 := Lib.hid ((L1.out.below (below1 _ (.cells #[.bool false, .slice none 0 0, .int .i64 0] 29))).below hB2))) | skip); have L2 : Hid (Mn wb Vb A2 m2 c2 es2) := ⟨hl2, hd2, hv2⟩; clear hl2 hd2 hv2 hB2)
        | (go_at_call 11; (with_reducible refine (HA1.out _ A1 m1 c1 es1 A2 m2 c2 es2 (by first | (with_reducible exact L1.out) | (with_reducible exact L1.out.below (below1 _ _))) (by first | (with_reducible exact L2.out) | (with_reducible exact L2.out.below (below1 _ _))) hm1 hm2).mono ?_); rintro e wd ⟨A4, m4, c4, es4, rfl, hm4, hl4, hd4, hv4, hB4⟩; (first | (with_reducible (replace cur := Lib.hid (cur.out.below hB4))) | (with_reducible (replace cur := Lib.hid (cur.out.one.below hB4))) | (with_reducible (replace cur := Lib.hid (F1.out.below hB4)))); have L4 : Hid (Mn wd V1 A4 m4 c4 es4) := ⟨hl4, hd4, hv4⟩; clear hl4 hd4 hv4 hB4; (first | (have kx := cur.out.first; have x0 := kx.1.c0; have x1 := kx.1.c1; have x2 := kx.1.c2; have xf := kx.1.fz; have xl_ := kx.1.lt; clear kx) | skip)))
    all_goals (go_wp2_with fail)
    all_goals go_meet
    all_goals (refine ⟨_, m4, c4, A4, es4, rfl, hm4, ?_⟩)
    all_goals (first
      | (have t := RelR.last (g := g1) (E := E1) cur.out L4.out; (with_reducible exact Lib.hid t))
      | (have t := RelR.ahead (g := g1) (E := E1) cur.out L4.out; (with_reducible exact Lib.hid t)))
  case rest =>
    obtain ⟨u8, rfl⟩ : ∃ u8, u8 = wc := ⟨_, rfl⟩
    obtain ⟨p, m1, c1, A1, es1, rfl, hm1, HR⟩ := hcut
    clear cur F1 HWa HWb HA1
    replace X0 := Lib.hid (X0.out.below HR.out.1)
    replace Y0 := Lib.hid (Y0.out.below HR.out.1)
    replace OLD := Lib.hid (OLD.out.trans (HR.out.1.mono OLD.out.size))
    have NP := Lib.hid HR.out.2.1
    have MP := Lib.hid HR.out.2.2.1
    clear HR hz7
    have cur := Lib.hid ((HoldR.start u8).below (below_drew _))
    have F1 := Lib.hid ((HoldR.start u8).one.below (below_drew _))
    go_wp2_with fail
    go_cut [12] from 15 (fun s7 wx => ∃ (p m4 c4 : Nat) (A4 : Option Addr) (es4 : List Nat), s7 = .pointer (some ⟨p, 0, none⟩) ∧ m4 ≤ 106 ∧ Hid (RelR u8 p g2 A4 m4 c4 E2 V2 es4 wx))
    case first =>
      go_region_held3 (fun u => u.cell? ⟨w7.heap.size, 0, none⟩ = some (.float .f64 yh) ∧ u.cell? ⟨w7.heap.size, 1, none⟩ = some (.float .f64 yl))
        (first | (with_reducible exact HoldR.both9 Y0.out cur.out) | (with_reducible exact HoldR.both9 Y0.out F1.out) | (with_reducible exact HoldR.both9 Y0.out (cur.out.below (below1 _ _))) | (with_reducible exact HoldR.both9P Y0.out cur.out _ _ _ _ _))
        (first
          | (go_at_call 12; (with_reducible refine (HWc.out _).mono ?_); rintro e wa ⟨A1, m1, c1, es1, rfl, hm1, hl1, hd1, hv1, hB1⟩; (first | (with_reducible (replace cur := Lib.hid (cur.out.below hB1))) | (with_reducible (replace cur := Lib.hid (cur.out.one.below hB1))) | (with_reducible (replace cur := Lib.hid (F1.out.below hB1)))); have L1 : Hid (Mn wa Vc A1 m1 c1 es1) := ⟨hl1, hd1, hv1⟩; clear hl1 hd1 hv1 hB1)
          | (go_at_call 12; (with_reducible refine (HWd.out _).mono ?_); rintro e wb ⟨A2, m2, c2, es2, rfl, hm2, hl2, hd2, hv2, hB2⟩; (first | (with_reducible (replace cur := Lib.hid (cur.out.below hB2))) | (with_reducible (replace cur := Lib.hid (cur.out.one.below hB2))) | (with_reducible (replace cur := Lib.hid (F1.out.below hB2)))); (first | (with_reducible (replace L1 := Lib.hid (L1.out.below hB2))) | (with_reducible (replace L1 := Lib.hid ((L1.out.below (below1 _ (.cells #[.bool false, .slice none 0 0, .int .i64 0] 29))).below hB2))) | skip); have L2 : Hid (Mn wb Vd A2 m2 c2 es2) := ⟨hl2, hd2, hv2⟩; clear hl2 hd2 hv2 hB2)
          | (go_at_call 11; (with_reducible refine (HA2.out _ A1 m1 c1 es1 A2 m2 c2 es2 (by first | (with_reducible exact L1.out) | (with_reducible exact L1.out.below (below1 _ _))) (by first | (with_reducible exact L2.out) | (with_reducible exact L2.out.below (below1 _ _))) hm1 hm2).mono ?_); rintro e wd ⟨A4, m4, c4, es4, rfl, hm4, hl4, hd4, hv4, hB4⟩; (first | (with_reducible (replace cur := Lib.hid (cur.out.below hB4))) | (with_reducible (replace cur := Lib.hid (cur.out.one.below hB4))) | (with_reducible (replace cur := Lib.hid (F1.out.below hB4)))); have L4 : Hid (Mn wd V2 A4 m4 c4 es4) := ⟨hl4, hd4, hv4⟩; clear hl4 hd4 hv4 hB4; (first | (have kx := cur.out.first; have x0 := kx.1.c0; have x1 := kx.1.c1; have x2 := kx.1.c2; have xf := kx.1.fz; have xl_ := kx.1.lt; clear kx) | skip)))
      all_goals (go_wp2_with fail)
      all_goals go_meet
      all_goals (refine ⟨_, m4, c4, A4, es4, rfl, hm4, ?_⟩)
      all_goals (first
        | (have t := RelR.last (g := g2) (E := E2) cur.out L4.out; (with_reducible exact Lib.hid t))
        | (have t := RelR.ahead (g := g2) (E := E2) cur.out L4.out; (with_reducible exact Lib.hid t)))
    case rest =>
      obtain ⟨u9, rfl⟩ : ∃ u9, u9 = wc := ⟨_, rfl⟩
      obtain ⟨q, m2, c2, A2, es2, rfl, hm2, HR⟩ := hcut
      have cz : HoldZ w w6.heap.size xh xl w7.heap.size yh yl p g1 A1 m1 c1 E1 V1 es1 q g2 A2 m2 c2 E2 V2 es2 u9 := ⟨X0.out.below HR.out.1, Y0.out.below HR.out.1, NP.out.below HR.out.1, MP.out.below HR.out.1, HR.out.2.1, HR.out.2.2.1, OLD.out.trans (HR.out.1.mono OLD.out.size)⟩
      clear cur F1 HWc HWd HA2 HR X0 Y0 NP MP OLD
      have cur := Lib.hid cz
      have x0 := cz.px.c0
      have x1 := cz.px.c1
      have y0 := cz.py.c0
      have y1 := cz.py.c1
      clear cz
      go_wp2_with fail
      refine (AW.out _).mono ?_
      rintro e u10 ⟨rfl, hB⟩
      replace cur := Lib.hid (cur.out.below hB)
      clear hB AW x0 x1 y0 y1
      have x0 := cur.out.px.c0
      have x1 := cur.out.px.c1
      have y0 := cur.out.py.c0
      have y1 := cur.out.py.c1
      have xlt := cur.out.px.lt
      have ylt := cur.out.py.lt
      have SP := Lib.hid (Pb.new u10 sh_ sl)
      replace cur := Lib.hid (cur.out.below (below1 u10 (.cells #[.float .f64 sh_, .float .f64 sl] 33)))
      rcases PM.out with rfl | ⟨rfl, th, tl, me, WT⟩
      · clear PM
        go_wp2_with fail
        refine (mul_any9 xh xl yh yl _).mono ?_
        rintro e u11 ⟨th, tl, rfl, hB⟩
        replace cur := Lib.hid (cur.out.below hB)
        replace SP := Lib.hid (SP.out.below hB)
        clear hB x0 x1 y0 y1 xlt ylt
        have TP := Lib.hid (Pb.new u11 th tl)
        replace SP := Lib.hid (SP.out.alloc (.cells #[.float .f64 th, .float .f64 tl] 33))
        replace cur := Lib.hid (cur.out.below (below1 u11 (.cells #[.float .f64 th, .float .f64 tl] 33)))
        have fin := Lib.hid ((show HoldY9 w u10.heap.size sh_ sl u11.heap.size th tl p g1 A1 m1 c1 E1 V1 es1 q g2 A2 m2 c2 E2 V2 es2 _ from ⟨SP.out, TP.out, cur.out.bp, cur.out.mp, cur.out.bq, cur.out.mq, cur.out.old⟩).below (below_drew _))
        clear cur SP TP
        go_wp2_with fail
        refine wp_region_noPanic ?_
        refine wp_region_held_drew (S := fun w' => w'.cell? ⟨u10.heap.size, 0, none⟩ = some (.float .f64 sh_) ∧ w'.cell? ⟨u10.heap.size, 1, none⟩ = some (.float .f64 sl) ∧ w'.cell? ⟨u11.heap.size, 0, none⟩ = some (.float .f64 th) ∧ w'.cell? ⟨u11.heap.size, 1, none⟩ = some (.float .f64 tl) ∧ w'.cell? ⟨p, 0, none⟩ = some (.bool g1) ∧ w'.cell? ⟨p, 1, none⟩ = some (.slice A1 m1 c1) ∧ w'.cell? ⟨p, 2, none⟩ = some (.int .i64 E1) ∧ w'.cell? ⟨q, 0, none⟩ = some (.bool g2) ∧ w'.cell? ⟨q, 1, none⟩ = some (.slice A2 m2 c2) ∧ w'.cell? ⟨q, 2, none⟩ = some (.int .i64 E2)) (by kernel_rfl) fin.out.ten (fun hHeld => ?_)
        refine wpAnyH_take (i := 0) (v := ?_) rfl (by kernel_rfl) (by kernel_rfl) (by kernel_rfl) (fun _ _ _ h => h) (Or.inl ⟨by rfl, ?_⟩) hHeld ?_
        rotate_left
        · intro w' hSw
          (try dsimp only at hSw)
          go_simp
          all_goals (with_reducible rfl)
        simp only [List.getElem_toArray, List.getElem_cons_zero, Act.put, List.setIfInBounds_toArray, List.set_cons_zero, List.set_cons_succ]
        refine wpAnyH_take (i := 1) (v := ?_) rfl (by kernel_rfl) (by kernel_rfl) (by kernel_rfl) (fun _ _ _ h => h) (Or.inl ⟨by rfl, ?_⟩) hHeld ?_
        rotate_left
        · intro w' hSw
          (try dsimp only at hSw)
          go_simp
          all_goals (with_reducible rfl)
        simp only [List.getElem_toArray, List.getElem_cons_succ, List.getElem_cons_zero, Act.put, List.setIfInBounds_toArray, List.set_cons_zero, List.set_cons_succ]
        refine wpAnyH_take (i := 2) (v := ?_) rfl (by kernel_rfl) (by kernel_rfl) (by kernel_rfl) (fun _ _ _ h => h) (Or.inl ⟨by rfl, ?_⟩) hHeld ?_
        rotate_left
        · intro w' hSw
          (try dsimp only at hSw)
          go_simp
          all_goals (with_reducible rfl)
        simp only [List.getElem_toArray, List.getElem_cons_succ, List.getElem_cons_zero, Act.put, List.setIfInBounds_toArray, List.set_cons_zero, List.set_cons_succ]
        refine wpAnyH_ready (rs := [3]) (by kernel_rfl) (by simp) ?_
        refine AllReadyH.cons rfl (fun K' hK' => ?_) AllReadyH.nil
        go_simp
        refine (HS.out _ A1 m1 c1 es1 A2 m2 c2 es2 fin.out.mp fin.out.mq hm1 hm2).mono ?_
        rintro e v1 ⟨A3, m3, c3, es3, rfl, hm3, hl3, hd3, hv3, hB⟩
        replace fin := Lib.hid (fin.out.below hB)
        have L3 : Hid (Mn v1 V3 A3 m3 c3 es3) := ⟨hl3, hd3, hv3⟩
        clear hB hl3 hd3 hv3
        refine hK'.out _ _ ?_ (fun hHeld => ?_)
        · exact fin.out.ten
        clear hK' K'

        refine wpAnyH_ready (rs := [4]) (by kernel_rfl) (by simp) ?_
        refine AllReadyH.cons rfl (fun K' hK' => ?_) AllReadyH.nil
        go_simp
        refine (HW100.out A3 m3 c3 es3 _ L3.out (by omega)).mono ?_
        rintro e v2 ⟨rfl, hB⟩
        replace fin := Lib.hid (fin.out.below hB)
        clear hB
        refine hK'.out _ _ ?_ (fun hHeld => ?_)
        · exact fin.out.ten
        clear hK' K'

        refine wpAnyH_take (i := 5) (v := ?_) rfl (by kernel_rfl) (by kernel_rfl) (by kernel_rfl) (fun _ _ _ h => h) (Or.inl ⟨by rfl, ?_⟩) hHeld ?_
        rotate_left
        · intro w' hSw
          (try dsimp only at hSw)
          go_simp
          all_goals (with_reducible rfl)
        simp only [List.getElem_toArray, List.getElem_cons_succ, List.getElem_cons_zero, Act.put, List.setIfInBounds_toArray, List.set_cons_zero, List.set_cons_succ]
        refine wpAnyH_take (i := 6) (v := ?_) rfl (by kernel_rfl) (by kernel_rfl) (by kernel_rfl) (fun _ _ _ h => h) (Or.inl ⟨by rfl, ?_⟩) hHeld ?_
        rotate_left
        · intro w' hSw
          (try dsimp only at hSw)
          go_simp
          all_goals (with_reducible rfl)
        simp only [List.getElem_toArray, List.getElem_cons_succ, List.getElem_cons_zero, Act.put, List.setIfInBounds_toArray, List.set_cons_zero, List.set_cons_succ]
        refine wpAnyH_take (i := 7) (v := ?_) rfl (by kernel_rfl) (by kernel_rfl) (by kernel_rfl) (fun _ _ _ h => h) (Or.inl ⟨by rfl, ?_⟩) hHeld ?_
        rotate_left
        · intro w' hSw
          (try dsimp only at hSw)
          go_simp
          all_goals (with_reducible rfl)
        simp only [List.getElem_toArray, List.getElem_cons_succ, List.getElem_cons_zero, Act.put, List.setIfInBounds_toArray, List.set_cons_zero, List.set_cons_succ]
        refine wpAnyH_ready (rs := [8]) (by kernel_rfl) (by simp) ?_
        refine AllReadyH.cons rfl (fun K' hK' => ?_) AllReadyH.nil
        go_simp
        refine (HFar.out _ A1 m1 c1 es1 A2 m2 c2 es2 fin.out.mp fin.out.mq hm1 hm2).mono ?_
        rintro e v3 ⟨rfl, hB⟩
        replace fin := Lib.hid (fin.out.below hB)
        clear hB
        refine hK'.out _ _ ?_ (fun hHeld => ?_)
        · exact fin.out.ten
        clear hK' K'

        refine wpAnyH_take (i := 9) (v := ?_) rfl (by kernel_rfl) (by kernel_rfl) (by kernel_rfl) (fun _ _ _ h => h) (Or.inl ⟨by rfl, ?_⟩) hHeld ?_
        rotate_left
        · intro w' hSw
          (try dsimp only at hSw)
          go_simp
          all_goals (with_reducible rfl)
        simp only [List.getElem_toArray, List.getElem_cons_succ, List.getElem_cons_zero, Act.put, List.setIfInBounds_toArray, List.set_cons_zero, List.set_cons_succ]
        refine wpAnyH_take (i := 10) (v := undef) rfl (by kernel_rfl) (by kernel_rfl) (by kernel_rfl) (fun _ _ _ h => h) (Or.inr ⟨by rfl, rfl⟩) hHeld ?_
        simp only [List.getElem_toArray, List.getElem_cons_succ, List.getElem_cons_zero, Act.put, List.setIfInBounds_toArray, List.set_cons_zero, List.set_cons_succ]
        refine wpAnyH_take (i := 11) (v := undef) rfl (by kernel_rfl) (by kernel_rfl) (by kernel_rfl) (fun _ _ _ h => h) (Or.inr ⟨by rfl, rfl⟩) hHeld ?_
        simp only [List.getElem_toArray, List.getElem_cons_succ, List.getElem_cons_zero, Act.put, List.setIfInBounds_toArray, List.set_cons_zero, List.set_cons_succ]
        refine wpAnyH_take (i := 12) (v := undef) rfl (by kernel_rfl) (by kernel_rfl) (by kernel_rfl) (fun _ _ _ h => h) (Or.inr ⟨by rfl, rfl⟩) hHeld ?_
        simp only [List.getElem_toArray, List.getElem_cons_succ, List.getElem_cons_zero, Act.put, List.setIfInBounds_toArray, List.set_cons_zero, List.set_cons_succ]
        refine wpAnyH_take (i := 13) (v := undef) rfl (by kernel_rfl) (by kernel_rfl) (by kernel_rfl) (fun _ _ _ h => h) (Or.inr ⟨by rfl, rfl⟩) hHeld ?_
        simp only [List.getElem_toArray, List.getElem_cons_succ, List.getElem_cons_zero, Act.put, List.setIfInBounds_toArray, List.set_cons_zero, List.set_cons_succ]
        refine wpAnyH_take (i := 14) (v := undef) rfl (by kernel_rfl) (by kernel_rfl) (by kernel_rfl) (fun _ _ _ h => h) (Or.inr ⟨by rfl, rfl⟩) hHeld ?_
        simp only [List.getElem_toArray, List.getElem_cons_succ, List.getElem_cons_zero, Act.put, List.setIfInBounds_toArray, List.set_cons_zero, List.set_cons_succ]
        refine wpAnyH_take (i := 15) (v := ?_) rfl (by kernel_rfl) (by kernel_rfl) (by kernel_rfl) (fun _ _ _ h => h) (Or.inl ⟨by rfl, ?_⟩) hHeld ?_
        rotate_left
        · intro w' hSw
          (try dsimp only at hSw)
          go_simp
          all_goals (with_reducible rfl)
        simp only [List.getElem_toArray, List.getElem_cons_succ, List.getElem_cons_zero, Act.put, List.setIfInBounds_toArray, List.set_cons_zero, List.set_cons_succ]
        refine wpAnyH_take (i := 16) (v := ?_) rfl (by kernel_rfl) (by kernel_rfl) (by kernel_rfl) (fun _ _ _ h => h) (Or.inl ⟨by rfl, ?_⟩) hHeld ?_
        rotate_left
        · intro w' hSw
          (try dsimp only at hSw)
          go_simp
          all_goals (with_reducible rfl)
        simp only [List.getElem_toArray, List.getElem_cons_succ, List.getElem_cons_zero, Act.put, List.setIfInBounds_toArray, List.set_cons_zero, List.set_cons_succ]
        refine wpAnyH_take (i := 17) (v := ?_) rfl (by kernel_rfl) (by kernel_rfl) (by kernel_rfl) (fun _ _ _ h => h) (Or.inl ⟨by rfl, ?_⟩) hHeld ?_
        rotate_left
        · intro w' hSw
          (try dsimp only at hSw)
          go_simp
          all_goals (with_reducible rfl)
        simp only [List.getElem_toArray, List.getElem_cons_succ, List.getElem_cons_zero, Act.put, List.setIfInBounds_toArray, List.set_cons_zero, List.set_cons_succ]
        refine wpAnyH_done (by kernel_rfl) ?_ _
        refine NoPanic.normal ?_
        clear hHeld
        go_wp2
        go_ret
        exact ⟨rfl, fin.out.old⟩
      · have MW := Lib.hid (mul_w me)
        have HW98 : Hid (∀ (A : Option Addr) (n c : Nat) (ds : List Nat) (u : World), Mn u Vm A n c ds → n ≤ 240 → Calls Try.prog 26 #[.agg #[.float .f64 th, .float .f64 tl], .agg #[.bool gm, .slice A n c, .int .i64 Em], .int .i64 98] u fun e w' => e = .returned (.bool true) ∧ Below u.heap.size u w') := WT
        clear PM me WT
        go_wp2_with fail
        refine (MW.out _).mono ?_
        rintro e u11 ⟨rfl, hB⟩
        replace cur := Lib.hid (cur.out.below hB)
        replace SP := Lib.hid (SP.out.below hB)
        clear hB x0 x1 y0 y1 xlt ylt
        have TP := Lib.hid (Pb.new u11 th tl)
        replace SP := Lib.hid (SP.out.alloc (.cells #[.float .f64 th, .float .f64 tl] 33))
        replace cur := Lib.hid (cur.out.below (below1 u11 (.cells #[.float .f64 th, .float .f64 tl] 33)))
        have fin := Lib.hid ((show HoldY9 w u10.heap.size sh_ sl u11.heap.size th tl p g1 A1 m1 c1 E1 V1 es1 q g2 A2 m2 c2 E2 V2 es2 _ from ⟨SP.out, TP.out, cur.out.bp, cur.out.mp, cur.out.bq, cur.out.mq, cur.out.old⟩).below (below_drew _))
        clear cur SP TP
        go_wp2_with fail
        go_region_held3 (fun w' => w'.cell? ⟨u10.heap.size, 0, none⟩ = some (.float .f64 sh_) ∧ w'.cell? ⟨u10.heap.size, 1, none⟩ = some (.float .f64 sl) ∧ w'.cell? ⟨u11.heap.size, 0, none⟩ = some (.float .f64 th) ∧ w'.cell? ⟨u11.heap.size, 1, none⟩ = some (.float .f64 tl) ∧ w'.cell? ⟨p, 0, none⟩ = some (.bool g1) ∧ w'.cell? ⟨p, 1, none⟩ = some (.slice A1 m1 c1) ∧ w'.cell? ⟨p, 2, none⟩ = some (.int .i64 E1) ∧ w'.cell? ⟨q, 0, none⟩ = some (.bool g2) ∧ w'.cell? ⟨q, 1, none⟩ = some (.slice A2 m2 c2) ∧ w'.cell? ⟨q, 2, none⟩ = some (.int .i64 E2))
          (with_reducible exact fin.out.ten)
          (first
            | (go_at_call 11; (with_reducible refine (HS.out _ A1 m1 c1 es1 A2 m2 c2 es2 fin.out.mp fin.out.mq hm1 hm2).mono ?_); rintro e v1 ⟨A3, m3, c3, es3, rfl, hm3, hl3, hd3, hv3, hB⟩; (with_reducible (replace fin := Lib.hid (fin.out.below hB))); have L3 : Hid (Mn v1 V3 A3 m3 c3 es3) := ⟨hl3, hd3, hv3⟩; clear hB hl3 hd3 hv3)
            | (go_at_call 26; (with_reducible refine (HW100.out A3 m3 c3 es3 _ L3.out (by omega)).mono ?_); rintro e v2 ⟨rfl, hB⟩; (with_reducible (replace fin := Lib.hid (fin.out.below hB))); clear hB)
            | (go_at_call 27; (with_reducible refine (HFar.out _ A1 m1 c1 es1 A2 m2 c2 es2 fin.out.mp fin.out.mq hm1 hm2).mono ?_); rintro e v3 ⟨rfl, hB⟩; (with_reducible (replace fin := Lib.hid (fin.out.below hB))); clear hB)
            | (go_at_call 20; (with_reducible refine (HM.out _ A1 m1 c1 es1 A2 m2 c2 es2 fin.out.mp fin.out.mq hm1 hm2).mono ?_); rintro e v4 ⟨A4, m4, c4, es4, rfl, hm4, hl4, hd4, hv4, hB⟩; (with_reducible (replace fin := Lib.hid (fin.out.below hB))); have L4 : Hid (Mn v4 Vm A4 m4 c4 es4) := ⟨hl4, hd4, hv4⟩; clear hB hl4 hd4 hv4)
            | (go_at_call 26; (with_reducible refine (HW98.out A4 m4 c4 es4 _ L4.out (by omega)).mono ?_); rintro e v5 ⟨rfl, hB⟩; (with_reducible (replace fin := Lib.hid (fin.out.below hB))); clear hB))
        all_goals (
          clear HS HW100 HW98 HFar HM
          go_wp2_with fail
          go_ret
          exact ⟨rfl, fin.out.old⟩)

theorem walk_ddPairs (a0 a1 a2 a3 : Int) (w : World) (h0 : 0 ≤ a0) (h1 : a0 ≤ 18446744073709551615) (h2 : 0 ≤ a1) (h3 : a1 ≤ 18446744073709551615) (h4 : 0 ≤ a2) (h5 : a2 ≤ 18446744073709551615) (h6 : 0 ≤ a3) (h7 : a3 ≤ 18446744073709551615) :
    Calls Try.prog 5 #[.int .u64 a0, .int .u64 a1, .int .u64 a2, .int .u64 a3] w fun e w' => e = .returned (.bool true) ∧ Below w.heap.size w w' := by
  obtain ⟨a, rfl⟩ := Int.eq_ofNat_of_zero_le h0
  obtain ⟨b, rfl⟩ := Int.eq_ofNat_of_zero_le h2
  obtain ⟨c, rfl⟩ := Int.eq_ofNat_of_zero_le h4
  obtain ⟨d, rfl⟩ := Int.eq_ofNat_of_zero_le h6
  by_cases hs : Sf a ∧ Sf b ∧ Sf c ∧ Sf d
  · exact ddPairs_yes a b c d (by omega) (by omega) (by omega) (by omega) hs.1 hs.2.1 hs.2.2.1 hs.2.2.2 w
  · exact ddPairs_no a b c d (by omega) (by omega) (by omega) (by omega) hs w
end Go.Proofs.Ytfccpjjdemanbaa
