/- The walk of planimeterlaw15.inner (written by law_iv4.py). -/
import Derived.Test.YtafgooiakmmfkaaDoorIvAdd
import Derived.Test.YtafgooiakmmfkaaDoorIvMulP
import Derived.Test.YtafgooiakmmfkaaDoorIvScale
import Derived.Test.YtafgooiakmmfkaaDoorTwoU
import Derived.Test.YtafgooiakmmfkaaDoorK3
namespace Go.Proofs.YtafgooiakmmfkaaDoor
open Go.RowKit

def scD (p : Dy) : Dy := if p.V = 0 then ⟨false, 0, 0⟩ else ⟨p.neg, p.V, p.e + -8⟩
/-- The steps of inner. -/
def InnV (g1 : Bool) (V1 : Nat) (e1 : Int) (g2 : Bool) (V2 : Nat) (e2 : Int) (u : Nat) (m s du p x : Dy) : Prop :=
  mk (!g1) V1 e1 = some m ∧ addO (mk g2 V2 e2) (mk m.neg m.V m.e) = some s ∧ mk false u 0 = some du ∧ mulO (mk s.neg s.V s.e) (mk du.neg du.V du.e) = some p ∧ addO (mk g1 V1 e1) (mk (scD p).neg (scD p).V (scD p).e) = some x ∧ mk p.neg p.V p.e = some p ∧ Sp 4000 s ∧ Sp 4100 p ∧ Sp 4200 x
theorem scd_sp {p : Dy} (h : Sp 4050 p) : Sp 4100 (scD p) ∧ dwD (scD p) * 256 = dwD p := by
  unfold scD
  by_cases h0 : p.V = 0
  · rw [if_pos h0]
    have e : dwD p = 0 := by unfold dwD; rw [h0, dw_zero]
    have e2 : dwD ⟨false, 0, 0⟩ = 0 := dw_zero false 0
    have e3 : blen 0 = 0 := blen_nought
    exact ⟨⟨rfl, by show -((4100 : Nat) : Int) ≤ 0; omega, by show ((blen 0 : Nat) : Int) + 0 ≤ ((4100 : Nat) : Int); omega⟩, by omega⟩
  · rw [if_neg h0]
    obtain ⟨h1, h2⟩ := sp_scale h (by omega) h0
    exact ⟨h1.mono (by omega), h2⟩
theorem inner_ex {g1 g2 : Bool} {V1 V2 u : Nat} {e1 e2 : Int} {d1 d2 : Dy} (hV1 : blen V1 ≤ 640) (ha1 : -3000 ≤ e1) (ha2 : e1 ≤ 3000) (hV2 : blen V2 ≤ 640) (hb1 : -3000 ≤ e2) (hb2 : e2 ≤ 3000) (h1 : mk g1 V1 e1 = some d1) (h2 : mk g2 V2 e2 = some d2) (hu : u ≤ 255) :
    ∃ m s du p x, InnV g1 V1 e1 g2 V2 e2 u m s du p x ∧ dwD x * 256 = dw g1 V1 e1 * 256 + (dw g2 V2 e2 - dw g1 V1 e1) * (u : Int) := by
  obtain ⟨s1, w1⟩ := sp_made (k := 3640) h1 (by omega) (by omega) (by omega) (fun _ => by omega)
  obtain ⟨s2, w2⟩ := sp_made (k := 3640) h2 (by omega) (by omega) (by omega) (fun _ => by omega)
  obtain ⟨m, hm, sm, wm⟩ := sp_near (g := !g1) hV1 ha1 ha2
  rw [dw_neg] at wm
  obtain ⟨s, hs, ss, ws⟩ := sp_add s2 sm (by omega)
  have hbu : blen u ≤ 8 := blen_le_iff.2 (by show u < 2 ^ 8; omega)
  obtain ⟨du, hdu, sdu, wdu⟩ := sp_mk (g := false) (V := u) (k := 10) (e := 0) (by omega) (by omega) (by omega) (fun _ => by omega)
  obtain ⟨p, hp, sp, wp⟩ := sp_mul ss sdu (by omega)
  obtain ⟨st, wt⟩ := scd_sp (sp.mono (by omega : 3640 + 1 + 10 ≤ 4050))
  obtain ⟨x, hx, sx, wx⟩ := sp_add (s1.mono (by omega : 3640 ≤ 4100)) st (by omega)
  refine ⟨m, s, du, p, x, ⟨hm, ?_, hdu, hp, ?_, sp.1, ss.mono (by omega), sp.mono (by omega), sx.mono (by omega)⟩, ?_⟩
  · rw [h2, ← s2.1]; exact hs
  · rw [h1, ← s1.1]; exact hx
  · have kp := uK_pos
    rw [wdu, dw_whole, ← Int.mul_assoc] at wp
    have wp' : dwD p = dw s.neg s.V s.e * (u : Int) := Int.eq_of_mul_eq_mul_right (by omega) wp
    have e : dwD x = dw d1.neg d1.V d1.e + dwD (scD p) := wx
    rw [e, Int.add_mul, wt, wp', ws, w1, w2, wm]
    rfl

set_option maxHeartbeats 4000000 in
set_option maxRecDepth 20000 in
theorem inner_l (u : Nat) (m s du p x d1 d2 : Dy) (g1 : Bool) (A1 : Option Addr) (n1 c1 : Nat) (xs1 : List Nat) (e1 : Int) (g2 : Bool) (A2 : Option Addr) (n2 c2 : Nat) (xs2 : List Nat) (e2 : Int) (w : World) (l1 : Lim w A1 n1 c1 xs1) (b1 : n1 ≤ 30000) (l2 : Lim w A2 n2 c2 xs2) (b2 : n2 ≤ 30000) (hT : Tab w) (h1 : Hid (mk g1 (val xs1) e1 = some d1)) (h2 : Hid (mk g2 (val xs2) e2 = some d2))
    (q1 : Hid (decide ((dw g1 (val xs1) e1) ≤ (dw g2 (val xs2) e2)) = true)) (hu : u ≤ 255) (hI : Hid (InnV g1 (val xs1) e1 g2 (val xs2) e2 u m s du p x)) :
    Calls Tryd.prog 27 #[.agg #[.bool g1, .slice A1 n1 c1, .int .i64 e1, .bool g2, .slice A2 n2 c2, .int .i64 e2], .int .u8 (u : Int)] w (Tells1 w x.neg x.V 140 x.e) := by
  have HT := Lib.hid hT
  have HS := Lib.hid (Below.refl w.heap.size w)
  have H1 : Hid (Lim w A1 n1 c1 xs1) := l1
  have H2 : Hid (Lim w A2 n2 c2 xs2) := l2
  clear l1 l2 hT
  have ba := below1 w (.cells #[.bool g1, .slice A1 n1 c1, .int .i64 e1, .bool g2, .slice A2 n2 c2, .int .i64 e2] 38)
  replace HT : Hid (Tab (w.alloc (.cells #[.bool g1, .slice A1 n1 c1, .int .i64 e1, .bool g2, .slice A2 n2 c2, .int .i64 e2] 38))) := HT.out.below ba
  replace H1 : Hid (Lim (w.alloc (.cells #[.bool g1, .slice A1 n1 c1, .int .i64 e1, .bool g2, .slice A2 n2 c2, .int .i64 e2] 38)) A1 n1 c1 xs1) := H1.out.below ba
  replace H2 : Hid (Lim (w.alloc (.cells #[.bool g1, .slice A1 n1 c1, .int .i64 e1, .bool g2, .slice A2 n2 c2, .int .i64 e2] 38)) A2 n2 c2 xs2) := H2.out.below ba
  replace HS := Lib.hid (HS.out.trans (ba.mono HS.out.size))
  clear ba
  have HI : Hid (Ib (w.alloc (.cells #[.bool g1, .slice A1 n1 c1, .int .i64 e1, .bool g2, .slice A2 n2 c2, .int .i64 e2] 38)) w.heap.size g1 A1 n1 c1 e1 g2 A2 n2 c2 e2) := Ib.new w g1 A1 n1 c1 e1 g2 A2 n2 c2 e2
  have ba := below1 (w.alloc (.cells #[.bool g1, .slice A1 n1 c1, .int .i64 e1, .bool g2, .slice A2 n2 c2, .int .i64 e2] 38)) (.cells #[.bool false, .slice none 0 0, .int .i64 0] 36)
  replace HT : Hid (Tab ((w.alloc (.cells #[.bool g1, .slice A1 n1 c1, .int .i64 e1, .bool g2, .slice A2 n2 c2, .int .i64 e2] 38)).alloc (.cells #[.bool false, .slice none 0 0, .int .i64 0] 36))) := HT.out.below ba
  replace H1 : Hid (Lim ((w.alloc (.cells #[.bool g1, .slice A1 n1 c1, .int .i64 e1, .bool g2, .slice A2 n2 c2, .int .i64 e2] 38)).alloc (.cells #[.bool false, .slice none 0 0, .int .i64 0] 36)) A1 n1 c1 xs1) := H1.out.below ba
  replace H2 : Hid (Lim ((w.alloc (.cells #[.bool g1, .slice A1 n1 c1, .int .i64 e1, .bool g2, .slice A2 n2 c2, .int .i64 e2] 38)).alloc (.cells #[.bool false, .slice none 0 0, .int .i64 0] 36)) A2 n2 c2 xs2) := H2.out.below ba
  replace HI : Hid (Ib ((w.alloc (.cells #[.bool g1, .slice A1 n1 c1, .int .i64 e1, .bool g2, .slice A2 n2 c2, .int .i64 e2] 38)).alloc (.cells #[.bool false, .slice none 0 0, .int .i64 0] 36)) w.heap.size g1 A1 n1 c1 e1 g2 A2 n2 c2 e2) := HI.out.below ba
  replace HS := Lib.hid (HS.out.trans (ba.mono HS.out.size))
  clear ba
  have HR : Hid (Bd ((w.alloc (.cells #[.bool g1, .slice A1 n1 c1, .int .i64 e1, .bool g2, .slice A2 n2 c2, .int .i64 e2] 38)).alloc (.cells #[.bool false, .slice none 0 0, .int .i64 0] 36)) (w.heap.size + 1) 36 false none 0 0 0) := (by have h := Bd.new (w.alloc (.cells #[.bool g1, .slice A1 n1 c1, .int .i64 e1, .bool g2, .slice A2 n2 c2, .int .i64 e2] 38)) 36 false none 0 0 0; rw [World.size_alloc] at h; exact h)
  have HI_0 := HI.out.x0
  have HI_1 := HI.out.x1
  have HI_2 := HI.out.x2
  have HI_3 := HI.out.x3
  have HI_4 := HI.out.x4
  have HI_5 := HI.out.x5
  have K1 := Lib.hid (ivwide_yes s m d1 d2 g1 A1 n1 c1 xs1 e1 g2 A2 n2 c2 xs2 e2 ((w.alloc (.cells #[.bool g1, .slice A1 n1 c1, .int .i64 e1, .bool g2, .slice A2 n2 c2, .int .i64 e2] 38)).alloc (.cells #[.bool false, .slice none 0 0, .int .i64 0] 36)) H1.out b1 H2.out b2 HT.out h1 h2 q1 (Lib.hid hI.out.1) (Lib.hid hI.out.2.1))
  go_enter Tryd.func27, Tryd.ntmps27
  go_wp2_with fail
  refine K1.out.mono ?_
  rintro e w1 ⟨gs, As, ms, cs, ss, Es, rs, rfl, hmx, hls, hbs, ⟨rfl, rfl, hzs, rfl⟩, hB⟩
  have hms : ms ≤ 140 := by rw [← hls.len]; exact sp_len hI.out.2.2.2.2.2.2.1 hls.words hbs hzs (by omega)
  clear HI_0 HI_1 HI_2 HI_3 HI_4 HI_5
  replace HT : Hid (Tab w1) := HT.out.below hB
  replace H1 : Hid (Lim w1 A1 n1 c1 xs1) := H1.out.below hB
  replace H2 : Hid (Lim w1 A2 n2 c2 xs2) := H2.out.below hB
  replace HI : Hid (Ib w1 w.heap.size g1 A1 n1 c1 e1 g2 A2 n2 c2 e2) := HI.out.below hB
  replace HR : Hid (Bd w1 (w.heap.size + 1) 36 false none 0 0 0) := HR.out.below hB
  replace HS := Lib.hid (HS.out.trans (hB.mono HS.out.size))
  have HLs : Hid (Lim w1 As ms cs ss) := hls
  have HVs : Hid (Bare ss ∧ val ss = s.V) := ⟨hbs, hzs⟩
  clear hls hbs hzs hB hmx K1
  have ba := below1 w1 (.cells #[.bool s.neg, .slice As ms cs, .int .i64 s.e] 36)
  replace HT : Hid (Tab (w1.alloc (.cells #[.bool s.neg, .slice As ms cs, .int .i64 s.e] 36))) := HT.out.below ba
  replace H1 : Hid (Lim (w1.alloc (.cells #[.bool s.neg, .slice As ms cs, .int .i64 s.e] 36)) A1 n1 c1 xs1) := H1.out.below ba
  replace H2 : Hid (Lim (w1.alloc (.cells #[.bool s.neg, .slice As ms cs, .int .i64 s.e] 36)) A2 n2 c2 xs2) := H2.out.below ba
  replace HI : Hid (Ib (w1.alloc (.cells #[.bool s.neg, .slice As ms cs, .int .i64 s.e] 36)) w.heap.size g1 A1 n1 c1 e1 g2 A2 n2 c2 e2) := HI.out.below ba
  replace HR : Hid (Bd (w1.alloc (.cells #[.bool s.neg, .slice As ms cs, .int .i64 s.e] 36)) (w.heap.size + 1) 36 false none 0 0 0) := HR.out.below ba
  replace HLs : Hid (Lim (w1.alloc (.cells #[.bool s.neg, .slice As ms cs, .int .i64 s.e] 36)) As ms cs ss) := HLs.out.below ba
  replace HS := Lib.hid (HS.out.trans (ba.mono HS.out.size))
  clear ba
  have HNs : Hid (Bd (w1.alloc (.cells #[.bool s.neg, .slice As ms cs, .int .i64 s.e] 36)) w1.heap.size 36 s.neg As ms cs s.e) := Bd.new w1 36 s.neg As ms cs s.e
  have HO2 : Hid (∀ v, Below (w1.alloc (.cells #[.bool s.neg, .slice As ms cs, .int .i64 s.e] 36)).heap.size (w1.alloc (.cells #[.bool s.neg, .slice As ms cs, .int .i64 s.e] 36)) v → Calls Tryd.prog 32 #[.int .i64 (IntKind.i64.wrap (u : Int))] v (Tells1 v du.neg du.V 1 du.e)) := fun v hv => by
    rw [show IntKind.i64.wrap (u : Int) = (u : Int) by rw [IntKind.wrap_i64]; omega]
    exact dof_nat u (by omega) du.neg du.V du.e v (HT.out.below hv) hI.out.2.2.1
  have HM2 : Hid (∀ v A m c es, Below (w1.alloc (.cells #[.bool s.neg, .slice As ms cs, .int .i64 s.e] 36)).heap.size (w1.alloc (.cells #[.bool s.neg, .slice As ms cs, .int .i64 s.e] 36)) v → Mq v du.V A m c es → m ≤ 1 → Calls Tryd.prog 29 #[.agg #[.bool s.neg, .slice As ms cs, .int .i64 s.e], .agg #[.bool du.neg, .slice A m c, .int .i64 du.e]] v (Told v (some p) 400)) := fun v A m c es hu h1 h2 => by
    refine (dmul_any (some p) s.neg As ms cs ss s.e du.neg A m c es du.e v (HLs.out.below hu) h1.1 (by omega) (by omega) (HT.out.below hu) (by show _ = _; rw [h1.2.2, HVs.out.2]; exact hI.out.2.2.2.1)).mono ?_
    rintro e w' ⟨g9, A9, m9, c9, z9, E9, r9, k1, k2, k3⟩
    exact ⟨g9, A9, m9, c9, z9, E9, r9, k1, by omega, k3⟩
  have HQs := HNs
  have hlt9 := Lib.hid HR.out.lt
  have cur := Lib.hid ((HoldU.start (w1.alloc (.cells #[.bool s.neg, .slice As ms cs, .int .i64 s.e] 36))).below (below_drew _))
  have F1 := (HoldU.start (w1.alloc (.cells #[.bool s.neg, .slice As ms cs, .int .i64 s.e] 36))).one.below (below_drew _)
  rw [World.size_alloc] at F1
  replace F1 := Lib.hid F1
  go_wp2_with fail
  go_cut [7, 8] from 9 (fun s13 s14 wx => ∃ (p4 m4 c4 : Nat) (A4 : Option Addr) (es4 : List Nat), s13 = .pointer (some ⟨p4, 0, none⟩) ∧ s14 = .int .i64 0 ∧ m4 ≤ 400 ∧ Hid (RelO (w1.alloc (.cells #[.bool s.neg, .slice As ms cs, .int .i64 s.e] 36)) p4 p.neg A4 m4 c4 p.e (val es4) es4 wx ∧ val es4 = p.V))
  case first =>
    as_aux_lemma =>
    go_region_held3 (fun v => v.cell? ⟨w1.heap.size, 0, none⟩ = some (.bool s.neg) ∧ v.cell? ⟨w1.heap.size, 1, none⟩ = some (.slice As ms cs) ∧ v.cell? ⟨w1.heap.size, 2, none⟩ = some (.int .i64 s.e)) (first | (with_reducible exact HQs.out.lo3d cur.out.old) | (with_reducible exact HQs.out.lo3d F1.out.old) | (with_reducible exact HQs.out.lo3d (cur.out.a1 _)) | (with_reducible exact HQs.out.lo3d (cur.out.at1 _ _ _ _ _)))
      (first
        | (go_at_call 32; (with_reducible refine (HO2.out _ (by first | (with_reducible exact cur.out.old) | (with_reducible exact F1.out.old) | (with_reducible exact cur.out.a1 _))).mono ?_); rintro e u1 ⟨A1', m1', c1', es1, rfl, hm1, hl1, hb1, hv1, hB1⟩; (first | (with_reducible (replace cur := Lib.hid (cur.out.below hB1))) | (with_reducible (replace cur := Lib.hid (cur.out.one.below hB1))) | (with_reducible (replace cur := Lib.hid (F1.out.below hB1)))); have L1 : Hid (Mq u1 du.V A1' m1' c1' es1) := ⟨hl1, hb1, hv1⟩; clear hl1 hb1 hv1 hB1; (first | (have kx := cur.out.first; have x0 := kx.c0; have x1 := kx.c1; have x2 := kx.c2; have xf := kx.fz; have xl := kx.lt; clear kx) | skip))
        | (go_at_call 29; (with_reducible refine (HM2.out _ A1' m1' c1' es1 (by first | (with_reducible exact cur.out.old) | (with_reducible exact F1.out.old) | (with_reducible exact cur.out.a1 _)) (by first | (with_reducible exact L1.out) | (with_reducible exact L1.out.below (below1 _ _))) hm1).mono ?_); rintro e u2 ⟨gq, A2', m2', c2', es2, E2, r2, rfl, hm2, hl2, hb2, ⟨rfl, rfl, hV2, rfl⟩, hB2⟩; (first | (with_reducible (replace cur := Lib.hid (cur.out.below hB2))) | (with_reducible (replace cur := Lib.hid (cur.out.one.below hB2))) | (with_reducible (replace cur := Lib.hid (F1.out.below hB2)))); have L2 : Hid (Mq u2 (val es2) A2' m2' c2' es2 ∧ val es2 = p.V) := ⟨⟨hl2, hb2, rfl⟩, hV2⟩; clear hl2 hb2 hV2 hB2; (first | (have kx := cur.out.first; have x0 := kx.c0; have x1 := kx.c1; have x2 := kx.c2; have xf := kx.fz; have xl := kx.lt; clear kx) | skip)))
    all_goals (go_wp2_with fail)
    all_goals go_meet
    all_goals (refine ⟨_, m2', c2', A2', es2, rfl, rfl, hm2, ?_⟩)
    all_goals (first
      | (have t := RelO.last (g := p.neg) (E := p.e) cur.out L2.out.1; have t2 := And.intro t L2.out.2; (with_reducible exact Lib.hid t2))
      | (have t := RelO.ahead (g := p.neg) (E := p.e) cur.out L2.out.1; have t2 := And.intro t L2.out.2; (with_reducible exact Lib.hid t2)))
  case rest =>
    clear cur F1 HO2 HM2 HQs
    obtain ⟨ux, rfl⟩ : ∃ ux, ux = wc := ⟨_, rfl⟩
    obtain ⟨pp, mp, cp, Ap, sp4, rfl, rfl, hmp, HRx⟩ := hcut
    have hB := HRx.out.1.1
    clear HNs HLs
    replace HT : Hid (Tab ux) := HT.out.below hB
    replace H1 : Hid (Lim ux A1 n1 c1 xs1) := H1.out.below hB
    replace H2 : Hid (Lim ux A2 n2 c2 xs2) := H2.out.below hB
    replace HI : Hid (Ib ux w.heap.size g1 A1 n1 c1 e1 g2 A2 n2 c2 e2) := HI.out.below hB
    replace HR : Hid (Bd ux (w.heap.size + 1) 36 false none 0 0 0) := HR.out.below hB
    replace HS := Lib.hid (HS.out.trans (hB.mono HS.out.size))
    have HPb : Hid (Bd ux pp 36 p.neg Ap mp cp p.e) := by have h := HRx.out.1.2.1; exact h
    have HPl : Hid (Lim ux Ap mp cp sp4) := HRx.out.1.2.2.1.1
    have HPv : Hid (val sp4 = p.V) := HRx.out.2
    have hge := HRx.out.1.2.2.2
    have hlt0 : Hid (w.heap.size + 1 < pp) := Nat.lt_of_lt_of_le hlt9.out hge
    clear HRx hB HVs hge hlt9
    obtain ⟨t, ht⟩ : ∃ t, scD p = t := ⟨_, rfl⟩
    have hne : w.heap.size + 1 < pp := hlt0.out
    have HIp := hI.out
    rw [InnV, ht] at HIp
    have spb := (sp_made (k := 4100) HIp.2.2.2.2.2.1 (by omega) HIp.2.2.2.2.2.2.2.1.2.1 (by have h := HIp.2.2.2.2.2.2.2.1.2.2; omega) (fun _ => HIp.2.2.2.2.2.2.2.1.2.2)).1
    have pe1 := HIp.2.2.2.2.2.2.2.1.2.1
    have pe2 := HIp.2.2.2.2.2.2.2.1.2.2
    have K2 : Calls Tryd.prog 53 #[.agg #[.bool p.neg, .slice Ap mp cp, .int .i64 p.e], .int .i64 (-8)] ux (Told ux (some t) mp) := by
      by_cases h0 : p.V = 0
      · have ht' : t = ⟨false, 0, 0⟩ := by rw [← ht]; unfold scD; rw [if_pos h0]
        rw [ht']
        exact iscale_nought p p.neg Ap mp cp sp4 p.e (-8) ux HPl.out (by omega) HT.out (by rw [HPv.out]; exact HIp.2.2.2.2.2.1) h0
      · have ht' : t = ⟨p.neg, p.V, p.e + -8⟩ := by rw [← ht]; unfold scD; rw [if_neg h0]
        rw [ht']
        exact iscale_yes p p.neg Ap mp cp sp4 p.e (-8) ux HPl.out (by omega) HT.out (by rw [HPv.out]; exact HIp.2.2.2.2.2.1) h0 (by omega) (by omega) (by decide) (by decide)
    replace K2 := Lib.hid K2
    have HIQ : Hid (addO (mk g1 (val xs1) e1) (mk t.neg t.V t.e) = some x ∧ Sp 4200 x) := ⟨HIp.2.2.2.2.1, HIp.2.2.2.2.2.2.2.2⟩
    clear HIp hI spb pe1 pe2 ht hlt0
    have HPb_0 := HPb.out.c0
    have HPb_1 := HPb.out.c1
    have HPb_2 := HPb.out.c2
    go_wp2_with fail
    refine K2.out.mono ?_
    rintro e w3 ⟨gt, At, mt, ct, st, Et, rt, rfl, hmt, hlt, hbt, ⟨rfl, rfl, hzt, rfl⟩, hB⟩
    clear HPb_0 HPb_1 HPb_2
    replace HT : Hid (Tab w3) := HT.out.below hB
    replace H1 : Hid (Lim w3 A1 n1 c1 xs1) := H1.out.below hB
    replace H2 : Hid (Lim w3 A2 n2 c2 xs2) := H2.out.below hB
    replace HI : Hid (Ib w3 w.heap.size g1 A1 n1 c1 e1 g2 A2 n2 c2 e2) := HI.out.below hB
    replace HR : Hid (Bd w3 (w.heap.size + 1) 36 false none 0 0 0) := HR.out.below hB
    replace HPb : Hid (Bd w3 pp 36 p.neg Ap mp cp p.e) := HPb.out.below hB
    replace HPl : Hid (Lim w3 Ap mp cp sp4) := HPl.out.below hB
    replace HS := Lib.hid (HS.out.trans (hB.mono HS.out.size))
    have HTl : Hid (Lim w3 At mt ct st ∧ val st = t.V) := ⟨hlt, hzt⟩
    clear hlt hbt hzt hB K2 HPv
    have HI3 : Hid (Ib (World.put w3 pp t.neg At mt ct t.e) w.heap.size g1 A1 n1 c1 e1 g2 A2 n2 c2 e2) := HI.out.other (by omega) _ _ _ _ _
    have HR3 : Hid (Bd (World.put w3 pp t.neg At mt ct t.e) (w.heap.size + 1) 36 false none 0 0 0) := HR.out.other (by omega) _ _ _ _ _
    have HP3 : Hid (Bd (World.put w3 pp t.neg At mt ct t.e) pp 36 t.neg At mt ct t.e) := HPb.out.put _ _ _ _ _
    have H13 : Hid (Lim (World.put w3 pp t.neg At mt ct t.e) A1 n1 c1 xs1) := HPb.out.lim H1.out _ _ _ _ _
    have HTl3 : Hid (Lim (World.put w3 pp t.neg At mt ct t.e) At mt ct st ∧ val st = t.V) := ⟨HPb.out.lim HTl.out.1 _ _ _ _ _, HTl.out.2⟩
    have HT3 : Hid (Tab (World.put w3 pp t.neg At mt ct t.e)) := HPb.out.tab HT.out _ _ _ _ _
    have HS3 : Hid (Below w.heap.size w (World.put w3 pp t.neg At mt ct t.e)) := below_put HS.out (by omega) _ _ _ _ _
    have K3 := Lib.hid (dadd_any (some x) g1 A1 n1 c1 xs1 e1 t.neg At mt ct st t.e (World.put w3 pp t.neg At mt ct t.e) H13.out HTl3.out.1 (by omega) (by omega) HT3.out (by show _ = _; rw [HTl3.out.2]; exact HIQ.out.1))
    have p0 := HPb.out.c0
    have p1 := HPb.out.c1
    have p2 := HPb.out.c2
    have pf := HPb.out.fz
    have i0 := HI3.out.x0
    have i1 := HI3.out.x1
    have i2 := HI3.out.x2
    clear HI HR HPb HPl H1 H2 HTl HT HS
    go_wp2_with fail
    refine K3.out.mono ?_
    rintro e w4 ⟨gx, Ax, mx, cx, sx, Ex, rx, rfl, hmx, hlx, hbx, ⟨rfl, rfl, hzx, rfl⟩, hB⟩
    clear p0 p1 p2 pf i0 i1 i2
    have mx9 : mx ≤ 140 := by rw [← hlx.len]; exact sp_len HIQ.out.2 hlx.words hbx hzx (by omega)
    have k2 := HR3.out.below hB
    have hs4 := HS3.out.trans (hB.mono HS3.out.size)
    have Hfin : Hid (Tells1 w x.neg x.V 140 x.e (.returned (.agg #[.bool x.neg, .slice Ax mx cx, .int .i64 x.e])) (World.put (w4.alloc (.cells #[.bool x.neg, .slice Ax mx cx, .int .i64 x.e] 36)) (w.heap.size + 1) x.neg Ax mx cx x.e)) :=
      ⟨Ax, mx, cx, sx, rfl, mx9, (k2.alloc _).lim (hlx.alloc _) _ _ _ _ _, hbx, hzx, below_put (hs4.alloc hs4.size _) (Nat.le_succ _) _ _ _ _ _⟩
    have y0 := fun o => (k2.alloc o).c0
    have y1 := fun o => (k2.alloc o).c1
    have y2 := fun o => (k2.alloc o).c2
    have yf := fun o => (k2.alloc o).fz
    clear k2 hB hlx hbx hzx K3 HI3 HR3 HP3 H13 HTl3 HT3 HS3 hs4 HIQ
    go_wp2
    exact bodyPost_ret (v := .agg #[.bool x.neg, .slice Ax mx cx, .int .i64 x.e]) (by simp [results, Tryd.results27, go_sem, y0, y1, y2]) rfl Hfin.out
end Go.Proofs.YtafgooiakmmfkaaDoor
