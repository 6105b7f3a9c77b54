/- The walk of the law ExactOnce (written by law_eonce.py). -/
import Derived.Test.YtmmeejofepmgaaaDoorExOnceM
import Derived.Deep.RegionHeld3
namespace Go.Proofs.YtmmeejofepmgaaaDoor
open Go.RowKit

/-- Two dyads, each in a block. -/
def HoldO (w : World) (bd : Nat) (g : Bool) (A : Option Addr) (n c : Nat) (xs : List Nat) (e0 : Int) (bp : Nat) (pg : Bool) (A2 : Option Addr) (m2 c2 : Nat) (zs : List Nat) (pE : Int) (u : World) : Prop :=
  Bd u bd 35 g A n c e0 ∧ Bd u bp 35 pg A2 m2 c2 pE ∧ Lim u A n c xs ∧ Lim u A2 m2 c2 zs ∧ Tab u ∧ Below w.heap.size w u
section
variable {w : World} {bd : Nat} {g : Bool} {A : Option Addr} {n c : Nat} {xs : List Nat} {e0 : Int} {bp : Nat} {pg : Bool} {A2 : Option Addr} {m2 c2 : Nat} {zs : List Nat} {pE : Int} {u u' : World}
theorem HoldO.below (q : HoldO w bd g A n c xs e0 bp pg A2 m2 c2 zs pE u) (hb : Below u.heap.size u u') : HoldO w bd g A n c xs e0 bp pg A2 m2 c2 zs pE u' := by
  obtain ⟨h1, h2, h3, h4, h5, h6⟩ := q
  exact ⟨h1.below hb, h2.below hb, h3.below hb, h4.below hb, h5.below hb, h6.trans (hb.mono h6.size)⟩
theorem HoldO.l1 (q : HoldO w bd g A n c xs e0 bp pg A2 m2 c2 zs pE u) : Lim u A n c xs := q.2.2.1
theorem HoldO.l2 (q : HoldO w bd g A n c xs e0 bp pg A2 m2 c2 zs pE u) : Lim u A2 m2 c2 zs := q.2.2.2.1
theorem HoldO.tab_ (q : HoldO w bd g A n c xs e0 bp pg A2 m2 c2 zs pE u) : Tab u := q.2.2.2.2.1
theorem HoldO.old (q : HoldO w bd g A n c xs e0 bp pg A2 m2 c2 zs pE u) : Below w.heap.size w u := q.2.2.2.2.2
end
/-- .. and a third. -/
def HoldO3 (w : World) (bd : Nat) (g : Bool) (A : Option Addr) (n c : Nat) (xs : List Nat) (e0 : Int) (bp : Nat) (pg : Bool) (A2 : Option Addr) (m2 c2 : Nat) (zs : List Nat) (pE : Int) (bo : Nat) (og : Bool) (A3 : Option Addr) (m3 c3 : Nat) (os : List Nat) (oE : Int) (u : World) : Prop :=
  HoldO w bd g A n c xs e0 bp pg A2 m2 c2 zs pE u ∧ Bd u bo 35 og A3 m3 c3 oE ∧ Lim u A3 m3 c3 os
section
variable {w : World} {bd : Nat} {g : Bool} {A : Option Addr} {n c : Nat} {xs : List Nat} {e0 : Int} {bp : Nat} {pg : Bool} {A2 : Option Addr} {m2 c2 : Nat} {zs : List Nat} {pE : Int} {bo : Nat} {og : Bool} {A3 : Option Addr} {m3 c3 : Nat} {os : List Nat} {oE : Int} {u u' : World}
theorem HoldO3.below (q : HoldO3 w bd g A n c xs e0 bp pg A2 m2 c2 zs pE bo og A3 m3 c3 os oE u) (hb : Below u.heap.size u u') : HoldO3 w bd g A n c xs e0 bp pg A2 m2 c2 zs pE bo og A3 m3 c3 os oE u' := ⟨q.1.below hb, q.2.1.below hb, q.2.2.below hb⟩
theorem HoldO3.nine (q : HoldO3 w bd g A n c xs e0 bp pg A2 m2 c2 zs pE bo og A3 m3 c3 os oE u) : Six u bd g A n c e0 bp pg A2 m2 c2 pE ∧ u.cell? ⟨bo, 0, none⟩ = some (.bool og) ∧ u.cell? ⟨bo, 1, none⟩ = some (.slice A3 m3 c3) ∧ u.cell? ⟨bo, 2, none⟩ = some (.int .i64 oE) := ⟨q.1.1.six q.1.2.1, q.2.1.c0, q.2.1.c1, q.2.1.c2⟩
theorem HoldO3.l3 (q : HoldO3 w bd g A n c xs e0 bp pg A2 m2 c2 zs pE bo og A3 m3 c3 os oE u) : Lim u A3 m3 c3 os := q.2.2
end

set_option maxHeartbeats 1000000 in
set_option maxRecDepth 20000 in
theorem eonce_long (HPow : PowerMeets) (g : Bool) (A : Option Addr) (n c : Nat) (e0 ki ei : Int) (w : World) (hT : Tab w) (hl : 20 < n) :
    Calls Tryd.prog 5 #[.agg #[.bool g, .slice A n c, .int .i64 e0], .int .i16 ki, .int .i16 ei] w fun e w' => e = .returned (.bool true) ∧ Below w.heap.size w w' := by
  have a1 := below1 w (.cells #[.bool g, .slice A n c, .int .i64 e0] 24)
  have H1 := Lib.hid (ealive_any HPow _ (hT.below a1))
  have Hb := Lib.hid (Bd.new w 24 g A n c e0)
  have HS := Lib.hid a1
  have b1 : decide ((20 : Int) < (n : Int)) = true := decide_eq_true (by omega)
  clear a1 hT hl
  go_enter Tryd.func5, Tryd.ntmps5
  go_wp2_with fail
  refine H1.out.mono ?_
  rintro e w1 ⟨rfl, hB1⟩
  have x1 := (Hb.out.below hB1).c1
  have Hfin := Lib.hid (HS.out.trans (hB1.mono HS.out.size))
  clear hB1 H1 HS Hb
  go_wp2
  go_ret
  exact ⟨rfl, Hfin.out⟩

set_option maxHeartbeats 2500000 in
set_option maxRecDepth 20000 in
theorem eonce_short (HPow : PowerMeets) (g : Bool) (A : Option Addr) (n c : Nat) (xs : List Nat) (e0 ki ei : Int) (w : World) (hT : Tab w) (hA : Lim w A n c xs) (hn : n ≤ 20) (hk1 : -32768 ≤ ki) (hk2 : ki ≤ 32767) (he1 : -32768 ≤ ei) (he2 : ei ≤ 32767) :
    Calls Tryd.prog 5 #[.agg #[.bool g, .slice A n c, .int .i64 e0], .int .i16 ki, .int .i16 ei] w fun e w' => e = .returned (.bool true) ∧ Below w.heap.size w w' := by
  have a1 := below1 w (.cells #[.bool g, .slice A n c, .int .i64 e0] 24)
  have H1 := Lib.hid (ealive_any HPow _ (hT.below a1))
  have Hb := Lib.hid (And.intro (Bd.new w 24 g A n c e0) (And.intro (hA.below a1) (And.intro (hT.below a1) a1)))
  have HP := Lib.hid HPow
  obtain ⟨o, ho⟩ : ∃ o, mk g (val xs) e0 = o := ⟨_, rfl⟩
  have HO := Lib.hid ho
  have b1 : decide ((20 : Int) < (n : Int)) = false := decide_eq_false (by omega)
  obtain ⟨mm, hmm⟩ : ∃ x, ki.tmod 50 = x := ⟨_, rfl⟩
  obtain ⟨nn, hnn⟩ : ∃ x, ei.tmod 50 = x := ⟨_, rfl⟩
  have bm : -50 < mm ∧ mm < 50 := by
    rw [← hmm]
    have h1 := Int.lt_tmod_of_pos ki (show (0 : Int) < 50 by decide)
    have h2 := Int.tmod_lt_of_pos ki (show (0 : Int) < 50 by decide)
    omega
  have bn : -50 < nn ∧ nn < 50 := by
    rw [← hnn]
    have h1 := Int.lt_tmod_of_pos ei (show (0 : Int) < 50 by decide)
    have h2 := Int.tmod_lt_of_pos ei (show (0 : Int) < 50 by decide)
    omega
  obtain ⟨pr, hpr⟩ : ∃ x, mm * nn = x := ⟨_, rfl⟩
  have bp : -2401 ≤ pr ∧ pr ≤ 2401 := by
    have h5 : (mm.natAbs * nn.natAbs : Nat) = (mm * nn).natAbs := (Int.natAbs_mul _ _).symm
    have h6 := Nat.mul_le_mul (show mm.natAbs ≤ 49 by omega) (show nn.natAbs ≤ 49 by omega)
    rw [hpr] at h5
    omega
  obtain ⟨bm1, bm2⟩ := bm
  obtain ⟨bn1, bn2⟩ := bn
  obtain ⟨bp1, bp2⟩ := bp
  clear a1 hT hA ho HPow
  go_enter Tryd.func5, Tryd.ntmps5
  go_wp2_with fail
  refine H1.out.mono ?_
  rintro e w1 ⟨rfl, hB1⟩
  obtain ⟨d1, d2, d3, d4⟩ := Hb.out
  have x0 := (d1.below hB1).c0
  have x1 := (d1.below hB1).c1
  have x2 := (d1.below hB1).c2
  have s1 := d4.trans (hB1.mono d4.size)
  have a2 := below1 w1 (.cells #[.bool g, .slice A n c, .int .i64 e0] 35)
  have HB0 : Hid (Bd (w1.alloc (.cells #[.bool g, .slice A n c, .int .i64 e0] 35)) w1.heap.size 35 g A n c e0 ∧ Lim (w1.alloc (.cells #[.bool g, .slice A n c, .int .i64 e0] 35)) A n c xs ∧ Tab (w1.alloc (.cells #[.bool g, .slice A n c, .int .i64 e0] 35)) ∧ Below w.heap.size w (w1.alloc (.cells #[.bool g, .slice A n c, .int .i64 e0] 35))) := ⟨Bd.new w1 _ _ _ _ _ _, (d2.below hB1).below a2, (d3.below hB1).below a2, s1.trans (a2.mono s1.size)⟩
  have h2 := HP.out g A n c xs e0 1 1 _ HB0.out.2.1 (by omega) HB0.out.2.2.1 (by decide) (by decide) (by decide) (by decide)
  rw [HO.out] at h2
  have H2 := Lib.hid h2
  clear hB1 H1 d1 d2 d3 d4 s1 a2 Hb h2
  go_wp2_with fail
  refine H2.out.mono ?_
  rintro e w2 ⟨A2, m2, c2, zs, pg, pE, ok, r1, rfl, hm2, hl2, hb2, hB2, hp1⟩
  have k2 := hB2.trans ((below1 w2 (.cells #[.bool pg, .slice A2 m2 c2, .int .i64 pE] 35)).mono hB2.size)
  obtain ⟨d1, d2, d3, d4⟩ := HB0.out
  have H0 : Hid (HoldO w w1.heap.size g A n c xs e0 w2.heap.size pg A2 m2 c2 zs pE (w2.alloc (.cells #[.bool pg, .slice A2 m2 c2, .int .i64 pE] 35))) := ⟨d1.below k2, Bd.new w2 _ _ _ _ _ _, d2.below k2, hl2.alloc _, d3.below k2, d4.trans (k2.mono d4.size)⟩
  have HP1 := Lib.hid hp1
  have HZ := Lib.hid hb2
  clear hB2 hl2 hb2 k2 d1 d2 d3 d4 HB0 H2 hp1 x0 x1 x2
  have x0 := H0.out.1.c0
  have x1 := H0.out.1.c1
  have x2 := H0.out.1.c2
  have h3 := dbare_any g A n c xs e0 _ H0.out.l1 (by omega) H0.out.tab_
  rw [HO.out] at h3
  have H3 := Lib.hid h3
  clear h3
  go_wp2_with fail
  refine H3.out.mono ?_
  rintro e w3 ⟨g3, A3, m3, c3, ts, E3, r3, rfl, hm3, hl3, hb3, his3, hB3⟩
  replace H0 := Lib.hid ((H0.out.below hB3).below (below1 _ (.cells #[.bool g3, .slice A3 m3 c3, .int .i64 E3] 35)))
  clear hB3 hl3 hb3 H3 x0 x1 x2
  cases o with
  | none =>
    obtain ⟨rfl, -, -, -⟩ := his3
    obtain rfl : r1 = 1 := HP1.out.1
    clear HP1 HO HZ HP
    have Hfin := Lib.hid H0.out.old
    clear H0
    go_wp2
    go_ret
    exact ⟨rfl, Hfin.out⟩
  | some d =>
    obtain ⟨rfl, -, -, -⟩ := his3
    obtain ⟨dg, dV, dE⟩ := d
    obtain ⟨s, hs⟩ : ∃ s, sgD g (val xs) = s := ⟨_, rfl⟩
    have hs2 : sgD dg dV = s := by rw [← hs]; exact sg_mk HO.out
    have HSg := Lib.hid (sign_l s g A n c xs e0 _ H0.out.l1 (by omega) hs)
    obtain ⟨od, o1, o2⟩ := mk_odd_of HO.out
    have HOd := Lib.hid (And.intro od (And.intro o1 o2))
    have HS2 := Lib.hid hs2
    have HDw : Hid (dw dg dV dE = dw g (val xs) e0) := (mk_fine HO.out).2.1
    clear hs hs2 od o1 o2
    have x0 := H0.out.1.c0
    have x1 := H0.out.1.c1
    have x2 := H0.out.1.c2
    go_wp2_with fail
    refine HSg.out.mono ?_
    rintro e w4 ⟨rfl, hB4⟩
    replace H0 := Lib.hid (H0.out.below hB4)
    clear hB4 HSg x0 x1 x2
    by_cases hpos : 0 < s
    case neg =>
      have dd : decide (s ≤ 0) = true := decide_eq_true (by omega)
      obtain rfl : r1 = 1 := by
        have h9 := HP1.out
        unfold PowIs at h9
        simp only at h9
        rw [if_neg (fun h8 => hpos (by rw [← HS2.out]; exact h8.1))] at h9
        exact h9.1
      clear HP1 HO HZ HP HOd HS2 HDw hpos
      have Hfin := Lib.hid H0.out.old
      clear H0 
      go_wp2
      go_ret
      exact ⟨rfl, Hfin.out⟩
    case pos =>
      have dd : decide (s ≤ 0) = false := decide_eq_false (by omega)
      obtain ⟨n1, rfl⟩ := sgD_above (by rw [HS2.out]; exact hpos)
      have hodd : dV % 2 = 1 := by
        rcases HOd.out.1 with ⟨q, hq⟩ | hq
        · simp only at hq; omega
        · injection hq with _ h8 _; exact absurd h8 n1
      have h9 := HP1.out
      unfold PowIs at h9
      simp only at h9
      rw [if_pos ⟨by rw [HS2.out]; exact hpos, by decide⟩] at h9
      obtain ⟨rfl, h9⟩ := h9
      rw [show (1 : Int).toNat = 1 from rfl] at h9
      have hok : ok = brkO (some ⟨false, dV, dE⟩) ∧ (ok = true → pg = false ∧ val zs = dV ∧ pE = dE) := by
        rcases h9 with ⟨h1, h2⟩ | ⟨h1, _, _, _, h2⟩
        · obtain ⟨q1, q2⟩ := (ex_first hodd HOd.out.2.1 HOd.out.2.2).1 h2
          injection q1 with a1 a2 a3
          exact ⟨by rw [h1, q2], fun _ => ⟨a1, a2, a3⟩⟩
        · refine ⟨?_, fun h8 => by rw [h1] at h8; exact absurd h8 (by decide)⟩
          rw [h1]
          cases hb : brkO (some ⟨false, dV, dE⟩)
          · rfl
          · exact absurd ((ex_first hodd HOd.out.2.1 HOd.out.2.2).2 ⟨rfl, hb⟩) (h2 _)
      have h3 := HP.out g A n c xs e0 0 5 _ H0.out.l1 (by omega) H0.out.tab_ (by decide) (by decide) (by decide) (by decide)
      rw [HO.out] at h3
      have H3 := Lib.hid h3
      have HOk := Lib.hid hok
      have HBkO : Hid (brkO (mk g (val xs) e0) = ok) := by show _ = _; rw [HO.out, hok.1]
      have hdV : Hid (0 < dV) := Nat.pos_of_ne_zero n1
      have HSp : Hid (0 < sgD false dV) := by show 0 < _; rw [HS2.out]; exact hpos
      clear h3 h9 hok HP1 n1 hodd HS2 hpos
      have x0 := H0.out.1.c0
      have x1 := H0.out.1.c1
      have x2 := H0.out.1.c2
      go_wp2_with fail
      refine H3.out.mono ?_
      rintro e w5 ⟨A3, m3, c3, os, og, oE, is, r5, rfl, hm3, hl3, hb3, hB5, hp5⟩
      have h9 := hp5
      unfold PowIs at h9
      simp only at h9
      rw [if_pos ⟨HSp.out, by decide⟩, show (5 : Int).toNat = 5 from rfl] at h9
      obtain ⟨rfl, h9⟩ := h9
      have h8 : is = true ∧ (⟨og, val os, oE⟩ : Dy) = ⟨false, 1, 0⟩ := by
        rcases h9 with ⟨h1, h2⟩ | ⟨_, _, _, _, h2⟩
        · exact ⟨h1, h2.uniq hdV.out (by decide) ex_zero⟩
        · exact absurd ex_zero (h2 _)
      obtain ⟨rfl, h8⟩ := h8
      injection h8 with q1 q2 q3
      subst q1
      subst q3
      have k5 := hB5.trans ((below1 w5 (.cells #[.bool false, .slice A3 m3 c3, .int .i64 0] 35)).mono hB5.size)
      have h7 : HoldO3 w w1.heap.size g A n c xs e0 w2.heap.size pg A2 m2 c2 zs pE w5.heap.size false A3 m3 c3 os 0 (w5.alloc (.cells #[.bool false, .slice A3 m3 c3, .int .i64 0] 35)) := ⟨H0.out.below k5, Bd.new w5 _ _ _ _ _ _, hl3.alloc _⟩
      have K0 := Lib.hid (h7.below (below_drew _))
      have HV3 := Lib.hid q2
      have HBk : Hid (∀ u, HoldO3 w w1.heap.size g A n c xs e0 w2.heap.size pg A2 m2 c2 zs pE w5.heap.size false A3 m3 c3 os 0 u → Calls Tryd.prog 23 #[.agg #[.bool g, .slice A n c, .int .i64 e0]] u fun e w' => e = .returned (.bool ok) ∧ Below u.heap.size u w') := fun u hu => break_l ok g A n c xs e0 u hu.1.l1 (by omega) hu.1.tab_ HBkO
      have HO1 : Hid (∀ u, HoldO3 w w1.heap.size g A n c xs e0 w2.heap.size pg A2 m2 c2 zs pE w5.heap.size false A3 m3 c3 os 0 u → Calls Tryd.prog 17 #[.int .i64 1] u (Tells1 u false 1 1 0)) := fun u hu => dof_nat 1 (by decide) false 1 0 u hu.1.tab_ rfl
      have HC1 : Hid (∀ u A7 m7 c7 qs, HoldO3 w w1.heap.size g A n c xs e0 w2.heap.size pg A2 m2 c2 zs pE w5.heap.size false A3 m3 c3 os 0 u → Lim u A7 m7 c7 qs → val qs = 1 → m7 ≤ 1 → Calls Tryd.prog 20 #[.agg #[.bool false, .slice A3 m3 c3, .int .i64 0], .agg #[.bool false, .slice A7 m7 c7, .int .i64 0]] u fun e w' => e = .returned (.int .i64 0) ∧ Below u.heap.size u w') := fun u A7 m7 c7 qs hu h1 h2 h3 =>
        dcmp_l 0 false A3 m3 c3 os 0 false A7 m7 c7 qs 0 u hu.l3 h1 (by omega) (by omega) hu.1.tab_ (by show _ = _; rw [HV3.out, h2]; exact cmpI_eq rfl)
      have HC0 : Hid (ok = true → ∀ u, HoldO3 w w1.heap.size g A n c xs e0 w2.heap.size pg A2 m2 c2 zs pE w5.heap.size false A3 m3 c3 os 0 u → Calls Tryd.prog 20 #[.agg #[.bool pg, .slice A2 m2 c2, .int .i64 pE], .agg #[.bool g, .slice A n c, .int .i64 e0]] u fun e w' => e = .returned (.int .i64 0) ∧ Below u.heap.size u w') := fun hk u hu =>
        dcmp_l 0 pg A2 m2 c2 zs pE g A n c xs e0 u hu.1.l2 hu.1.l1 (by omega) (by omega) hu.1.tab_ (by
          show _ = _
          obtain ⟨a1, a2, a3⟩ := HOk.out.2 hk
          rw [a1, a2, a3, HDw.out]
          exact cmpI_eq rfl)
      clear hB5 hl3 hb3 h9 hp5 q2 k5 h7 H0 H3 HO HZ HOd HDw HOk HBkO hdV HSp x0 x1 x2
      have e10 : (0 : Int) % 50 = 0 := rfl
      clear e10
      cases ok with
      | true =>
        have HCt := Lib.hid (HC0.out rfl)
        go_wp2_with fail
        go_region_held3 (fun w' => Six w' w1.heap.size g A n c e0 w2.heap.size pg A2 m2 c2 pE ∧ w'.cell? ⟨w5.heap.size, 0, none⟩ = some (.bool false) ∧ w'.cell? ⟨w5.heap.size, 1, none⟩ = some (.slice A3 m3 c3) ∧ w'.cell? ⟨w5.heap.size, 2, none⟩ = some (.int .i64 0))
          (first | (with_reducible exact K0.out.nine) | (with_reducible exact K1.out.nine) | (with_reducible exact K2.out.nine) | (with_reducible exact K3.out.nine) | (with_reducible exact K9.out.nine))
          (first
            | (go_at_call 23; (with_reducible refine (HBk.out _ K0.out).mono ?_); rintro e w6 ⟨rfl, hB⟩; have K1 := Lib.hid (K0.out.below hB); clear hB)
            | (go_at_call 20; (with_reducible refine (HCt.out _ K1.out).mono ?_); rintro e w7 ⟨rfl, hB⟩; have K2 := Lib.hid (K1.out.below hB); clear hB)
            | (go_at_call 17; (with_reducible refine (HO1.out _ K2.out).mono ?_); rintro e w8 ⟨A7, m7, c7, qs, rfl, hm7, hl7, hb7, hv7, hB⟩; have K3 := Lib.hid (K2.out.below hB); have L7 := Lib.hid hl7; have V7 := Lib.hid hv7; clear hl7 hb7 hv7 hB)
            | (go_at_call 20; (with_reducible refine (HC1.out _ A7 m7 c7 qs K3.out L7.out V7.out hm7).mono ?_); rintro e w9 ⟨rfl, hB⟩; have K9 := Lib.hid (K3.out.below hB); clear hB))
        clear K1 K2 K3 L7 V7 HCt
        have H0 := Lib.hid K9.out.1
        clear K9 K0 HBk HO1 HC1 HC0
        have l1 := lim_new1 w9 39 1 1 rfl (by decide)
        have hmk1 : mk false (val [1]) nn = some ⟨false, 1, nn⟩ := mk_odd_self (d := ⟨false, 1, nn⟩) (Or.inl ⟨0, rfl⟩) (by show -1073741824 ≤ nn; omega) (by show nn ≤ 1073741824; omega)
        have h4 := HP.out false (some ⟨w9.heap.size, 0, none⟩) 1 1 [1] nn mm 1 _ l1 (by decide) (H0.out.tab_.below (below1 _ _)) (by omega) (by omega) (by decide) (by decide)
        rw [hmk1] at h4
        have H4 := Lib.hid h4
        replace H0 := Lib.hid (H0.out.below (below1 w9 (.cells #[.int .u64 1] 39)))
        clear h4 l1 hmk1 HP
        go_wp2_with fail
        refine H4.out.mono ?_
        rintro e w10 ⟨A5, m5, c5, us, qg, qE, may, r6, rfl, hm5, hl5, hb5, hB6, hp6⟩
        have h9 := hp6
        unfold PowIs at h9
        simp only at h9
        rw [if_pos ⟨by decide, by decide⟩, show (1 : Int).toNat = 1 from rfl] at h9
        obtain ⟨rfl, h9⟩ := h9
        have hnm : nn * mm = pr := by rw [Int.mul_comm]; exact hpr
        have hmay : may = decide (-1075 ≤ pr ∧ pr ≤ 1024) ∧ (may = true → qg = false ∧ val us = 1 ∧ qE = pr) := by
          rcases h9 with ⟨h1, h2⟩ | ⟨h1, _, _, _, h2⟩
          · obtain ⟨q1, q2⟩ := (ex_two (by rw [hnm]; omega) (by rw [hnm]; omega)).1 h2
            rw [hnm] at q1 q2
            injection q1 with a1 a2 a3
            exact ⟨by rw [h1]; exact (decide_eq_true q2).symm, fun _ => ⟨a1, a2, a3⟩⟩
          · refine ⟨?_, fun h8 => by rw [h1] at h8; exact absurd h8 (by decide)⟩
            rw [h1]
            refine (decide_eq_false fun h8 => ?_).symm
            refine h2 ⟨false, 1, pr⟩ ((ex_two (by rw [hnm]; omega) (by rw [hnm]; omega)).2 ⟨by rw [hnm], ?_⟩)
            rw [hnm]; exact h8
        replace H0 := Lib.hid ((H0.out.below hB6).below (below1 _ (.cells #[.bool qg, .slice A5 m5 c5, .int .i64 qE] 35)))
        have HQ := Lib.hid (Bd.new w10 35 qg A5 m5 c5 qE)
        have HL5 := Lib.hid (hl5.alloc (.cells #[.bool qg, .slice A5 m5 c5, .int .i64 qE] 35))
        have HMy := Lib.hid hmay
        clear hB6 hl5 hb5 h9 hp6 hmay H4 hnm
        by_cases q1 : -1075 ≤ pr
        · have c1 : decide (-1075 ≤ pr) = true := decide_eq_true q1
          by_cases q2 : pr ≤ 1024
          · have c2 : decide (pr ≤ 1024) = true := decide_eq_true q2
            obtain rfl : may = true := by rw [HMy.out.1]; exact decide_eq_true ⟨q1, q2⟩
            obtain ⟨rfl, hu1, rfl⟩ := HMy.out.2 rfl
            have l2 := lim_new1 (w10.alloc (.cells #[.bool false, .slice A5 m5 c5, .int .i64 qE] 35)) 39 1 1 rfl (by decide)
            rw [World.size_alloc] at l2
            have s0 := HQ.out.c0
            have s1 := HQ.out.c1
            have s2 := HQ.out.c2
            have HC9 := Lib.hid (dcmp_l 0 false A5 m5 c5 us qE false (some ⟨w10.heap.size + 1, 0, none⟩) 1 1 [1] qE _ (HL5.out.below (below1 _ _)) l2 (by omega) (by decide) (H0.out.tab_.below (below1 _ _)) (by show _ = _; rw [hu1]; exact cmpI_eq rfl))
            replace H0 := Lib.hid (H0.out.below (below1 (w10.alloc (.cells #[.bool false, .slice A5 m5 c5, .int .i64 qE] 35)) (.cells #[.int .u64 1] 39)))
            clear l2 hu1 HMy HQ HL5 q1 q2
            go_wp2_with fail
            refine HC9.out.mono ?_
            rintro e w11 ⟨rfl, hB⟩
            have Hfin := Lib.hid (H0.out.below hB).old
            clear hB H0 HC9 s0 s1 s2
            go_wp2
            go_ret
            exact ⟨rfl, Hfin.out⟩
          · have c2 : decide (pr ≤ 1024) = false := decide_eq_false q2
            obtain rfl : may = false := by rw [HMy.out.1]; exact decide_eq_false (fun h => q2 h.2)
            have Hfin := Lib.hid H0.out.old
            clear H0 HMy HQ HL5 q1 q2
            go_wp2
            go_ret
            exact ⟨rfl, Hfin.out⟩
        · have c1 : decide (-1075 ≤ pr) = false := decide_eq_false q1
          obtain rfl : may = false := by rw [HMy.out.1]; exact decide_eq_false (fun h => q1 h.1)
          have Hfin := Lib.hid H0.out.old
          clear H0 HMy HQ HL5 q1
          go_wp2
          go_ret
          exact ⟨rfl, Hfin.out⟩
      | false =>
        go_wp2_with fail
        refine wp_region_noPanic ?_
        refine wp_region_held_drew (S := fun w' => Six w' w1.heap.size g A n c e0 w2.heap.size pg A2 m2 c2 pE ∧ w'.cell? ⟨w5.heap.size, 0, none⟩ = some (.bool false) ∧ w'.cell? ⟨w5.heap.size, 1, none⟩ = some (.slice A3 m3 c3) ∧ w'.cell? ⟨w5.heap.size, 2, none⟩ = some (.int .i64 0)) (by kernel_rfl) K0.out.nine (fun hHeld => ?_)
        refine wpAnyH_take (i := 0) (v := ?_) rfl (by kernel_rfl) (by kernel_rfl) (by kernel_rfl) (fun _ _ _ h => h) (Or.inl ⟨by rfl, ?_⟩) hHeld ?_
        rotate_left
        · intro w' hSw
          (try dsimp only at hSw)
          go_simp
          all_goals (with_reducible rfl)
        simp only [List.getElem_toArray, List.getElem_cons_zero, Act.put, List.setIfInBounds_toArray, List.set_cons_zero, List.set_cons_succ]
        refine wpAnyH_take (i := 1) (v := ?_) rfl (by kernel_rfl) (by kernel_rfl) (by kernel_rfl) (fun _ _ _ h => h) (Or.inl ⟨by rfl, ?_⟩) hHeld ?_
        rotate_left
        · intro w' hSw
          (try dsimp only at hSw)
          go_simp
          all_goals (with_reducible rfl)
        simp only [List.getElem_toArray, List.getElem_cons_succ, List.getElem_cons_zero, Act.put, List.setIfInBounds_toArray, List.set_cons_zero, List.set_cons_succ]
        refine wpAnyH_take (i := 2) (v := ?_) rfl (by kernel_rfl) (by kernel_rfl) (by kernel_rfl) (fun _ _ _ h => h) (Or.inl ⟨by rfl, ?_⟩) hHeld ?_
        rotate_left
        · intro w' hSw
          (try dsimp only at hSw)
          go_simp
          all_goals (with_reducible rfl)
        simp only [List.getElem_toArray, List.getElem_cons_succ, List.getElem_cons_zero, Act.put, List.setIfInBounds_toArray, List.set_cons_zero, List.set_cons_succ]
        refine wpAnyH_take (i := 3) (v := ?_) rfl (by kernel_rfl) (by kernel_rfl) (by kernel_rfl) (fun _ _ _ h => h) (Or.inl ⟨by rfl, ?_⟩) hHeld ?_
        rotate_left
        · intro w' hSw
          (try dsimp only at hSw)
          go_simp
          all_goals (with_reducible rfl)
        simp only [List.getElem_toArray, List.getElem_cons_succ, List.getElem_cons_zero, Act.put, List.setIfInBounds_toArray, List.set_cons_zero, List.set_cons_succ]
        refine wpAnyH_take (i := 4) (v := ?_) rfl (by kernel_rfl) (by kernel_rfl) (by kernel_rfl) (fun _ _ _ h => h) (Or.inl ⟨by rfl, ?_⟩) hHeld ?_
        rotate_left
        · intro w' hSw
          (try dsimp only at hSw)
          go_simp
          all_goals (with_reducible rfl)
        simp only [List.getElem_toArray, List.getElem_cons_succ, List.getElem_cons_zero, Act.put, List.setIfInBounds_toArray, List.set_cons_zero, List.set_cons_succ]
        refine wpAnyH_take (i := 5) (v := ?_) rfl (by kernel_rfl) (by kernel_rfl) (by kernel_rfl) (fun _ _ _ h => h) (Or.inl ⟨by rfl, ?_⟩) hHeld ?_
        rotate_left
        · intro w' hSw
          (try dsimp only at hSw)
          go_simp
          all_goals (with_reducible rfl)
        simp only [List.getElem_toArray, List.getElem_cons_succ, List.getElem_cons_zero, Act.put, List.setIfInBounds_toArray, List.set_cons_zero, List.set_cons_succ]
        refine wpAnyH_take (i := 6) (v := ?_) rfl (by kernel_rfl) (by kernel_rfl) (by kernel_rfl) (fun _ _ _ h => h) (Or.inl ⟨by rfl, ?_⟩) hHeld ?_
        rotate_left
        · intro w' hSw
          (try dsimp only at hSw)
          go_simp
          all_goals (with_reducible rfl)
        simp only [List.getElem_toArray, List.getElem_cons_succ, List.getElem_cons_zero, Act.put, List.setIfInBounds_toArray, List.set_cons_zero, List.set_cons_succ]
        refine wpAnyH_take (i := 7) (v := ?_) rfl (by kernel_rfl) (by kernel_rfl) (by kernel_rfl) (fun _ _ _ h => h) (Or.inl ⟨by rfl, ?_⟩) hHeld ?_
        rotate_left
        · intro w' hSw
          (try dsimp only at hSw)
          go_simp
          all_goals (with_reducible rfl)
        simp only [List.getElem_toArray, List.getElem_cons_succ, List.getElem_cons_zero, Act.put, List.setIfInBounds_toArray, List.set_cons_zero, List.set_cons_succ]
        refine wpAnyH_take (i := 8) (v := ?_) rfl (by kernel_rfl) (by kernel_rfl) (by kernel_rfl) (fun _ _ _ h => h) (Or.inl ⟨by rfl, ?_⟩) hHeld ?_
        rotate_left
        · intro w' hSw
          (try dsimp only at hSw)
          go_simp
          all_goals (with_reducible rfl)
        simp only [List.getElem_toArray, List.getElem_cons_succ, List.getElem_cons_zero, Act.put, List.setIfInBounds_toArray, List.set_cons_zero, List.set_cons_succ]
        refine wpAnyH_ready (rs := [9]) (by kernel_rfl) (by simp) ?_
        refine AllReadyH.cons rfl (fun K' hK' => ?_) AllReadyH.nil
        go_simp
        refine (HBk.out _ K0.out).mono ?_
        rintro e w6 ⟨rfl, hB⟩
        have K1 := Lib.hid (K0.out.below hB)
        refine hK'.out _ _ ?_ (fun hHeld => ?_)
        · exact K1.out.nine
        clear hK' K' hB
        refine wpAnyH_take (i := 10) (v := ?_) rfl (by kernel_rfl) (by kernel_rfl) (by kernel_rfl) (fun _ _ _ h => h) (Or.inl ⟨by rfl, ?_⟩) hHeld ?_
        rotate_left
        · intro w' hSw
          (try dsimp only at hSw)
          go_simp
          all_goals (with_reducible rfl)
        simp only [List.getElem_toArray, List.getElem_cons_succ, List.getElem_cons_zero, Act.put, List.setIfInBounds_toArray, List.set_cons_zero, List.set_cons_succ]
        refine wpAnyH_take (i := 11) (v := ?_) rfl (by kernel_rfl) (by kernel_rfl) (by kernel_rfl) (fun _ _ _ h => h) (Or.inl ⟨by rfl, ?_⟩) hHeld ?_
        rotate_left
        · intro w' hSw
          (try dsimp only at hSw)
          go_simp
          all_goals (with_reducible rfl)
        simp only [List.getElem_toArray, List.getElem_cons_succ, List.getElem_cons_zero, Act.put, List.setIfInBounds_toArray, List.set_cons_zero, List.set_cons_succ]
        refine wpAnyH_take (i := 12) (v := ?_) rfl (by kernel_rfl) (by kernel_rfl) (by kernel_rfl) (fun _ _ _ h => h) (Or.inl ⟨by rfl, ?_⟩) hHeld ?_
        rotate_left
        · intro w' hSw
          (try dsimp only at hSw)
          go_simp
          all_goals (with_reducible rfl)
        simp only [List.getElem_toArray, List.getElem_cons_succ, List.getElem_cons_zero, Act.put, List.setIfInBounds_toArray, List.set_cons_zero, List.set_cons_succ]
        refine wpAnyH_take (i := 13) (v := ?_) rfl (by kernel_rfl) (by kernel_rfl) (by kernel_rfl) (fun _ _ _ h => h) (Or.inl ⟨by rfl, ?_⟩) hHeld ?_
        rotate_left
        · intro w' hSw
          (try dsimp only at hSw)
          go_simp
          all_goals (with_reducible rfl)
        simp only [List.getElem_toArray, List.getElem_cons_succ, List.getElem_cons_zero, Act.put, List.setIfInBounds_toArray, List.set_cons_zero, List.set_cons_succ]
        refine wpAnyH_take (i := 14) (v := ?_) rfl (by kernel_rfl) (by kernel_rfl) (by kernel_rfl) (fun _ _ _ h => h) (Or.inl ⟨by rfl, ?_⟩) hHeld ?_
        rotate_left
        · intro w' hSw
          (try dsimp only at hSw)
          go_simp
          all_goals (with_reducible rfl)
        simp only [List.getElem_toArray, List.getElem_cons_succ, List.getElem_cons_zero, Act.put, List.setIfInBounds_toArray, List.set_cons_zero, List.set_cons_succ]
        refine wpAnyH_take (i := 15) (v := undef) rfl (by kernel_rfl) (by kernel_rfl) (by kernel_rfl) (fun _ _ _ h => h) (Or.inr ⟨by rfl, rfl⟩) hHeld ?_
        simp only [List.getElem_toArray, List.getElem_cons_succ, List.getElem_cons_zero, Act.put, List.setIfInBounds_toArray, List.set_cons_zero, List.set_cons_succ]
        refine wpAnyH_take (i := 16) (v := undef) rfl (by kernel_rfl) (by kernel_rfl) (by kernel_rfl) (fun _ _ _ h => h) (Or.inr ⟨by rfl, rfl⟩) hHeld ?_
        simp only [List.getElem_toArray, List.getElem_cons_succ, List.getElem_cons_zero, Act.put, List.setIfInBounds_toArray, List.set_cons_zero, List.set_cons_succ]
        refine wpAnyH_take (i := 17) (v := undef) rfl (by kernel_rfl) (by kernel_rfl) (by kernel_rfl) (fun _ _ _ h => h) (Or.inr ⟨by rfl, rfl⟩) hHeld ?_
        simp only [List.getElem_toArray, List.getElem_cons_succ, List.getElem_cons_zero, Act.put, List.setIfInBounds_toArray, List.set_cons_zero, List.set_cons_succ]
        refine wpAnyH_take (i := 18) (v := undef) rfl (by kernel_rfl) (by kernel_rfl) (by kernel_rfl) (fun _ _ _ h => h) (Or.inr ⟨by rfl, rfl⟩) hHeld ?_
        simp only [List.getElem_toArray, List.getElem_cons_succ, List.getElem_cons_zero, Act.put, List.setIfInBounds_toArray, List.set_cons_zero, List.set_cons_succ]
        refine wpAnyH_take (i := 19) (v := ?_) rfl (by kernel_rfl) (by kernel_rfl) (by kernel_rfl) (fun _ _ _ h => h) (Or.inl ⟨by rfl, ?_⟩) hHeld ?_
        rotate_left
        · intro w' hSw
          (try dsimp only at hSw)
          go_simp
          all_goals (with_reducible rfl)
        simp only [List.getElem_toArray, List.getElem_cons_succ, List.getElem_cons_zero, Act.put, List.setIfInBounds_toArray, List.set_cons_zero, List.set_cons_succ]
        refine wpAnyH_take (i := 20) (v := ?_) rfl (by kernel_rfl) (by kernel_rfl) (by kernel_rfl) (fun _ _ _ h => h) (Or.inl ⟨by rfl, ?_⟩) hHeld ?_
        rotate_left
        · intro w' hSw
          (try dsimp only at hSw)
          go_simp
          all_goals (with_reducible rfl)
        simp only [List.getElem_toArray, List.getElem_cons_succ, List.getElem_cons_zero, Act.put, List.setIfInBounds_toArray, List.set_cons_zero, List.set_cons_succ]
        refine wpAnyH_take (i := 21) (v := ?_) rfl (by kernel_rfl) (by kernel_rfl) (by kernel_rfl) (fun _ _ _ h => h) (Or.inl ⟨by rfl, ?_⟩) hHeld ?_
        rotate_left
        · intro w' hSw
          (try dsimp only at hSw)
          go_simp
          all_goals (with_reducible rfl)
        simp only [List.getElem_toArray, List.getElem_cons_succ, List.getElem_cons_zero, Act.put, List.setIfInBounds_toArray, List.set_cons_zero, List.set_cons_succ]
        refine wpAnyH_take (i := 22) (v := ?_) rfl (by kernel_rfl) (by kernel_rfl) (by kernel_rfl) (fun _ _ _ h => h) (Or.inl ⟨by rfl, ?_⟩) hHeld ?_
        rotate_left
        · intro w' hSw
          (try dsimp only at hSw)
          go_simp
          all_goals (with_reducible rfl)
        simp only [List.getElem_toArray, List.getElem_cons_succ, List.getElem_cons_zero, Act.put, List.setIfInBounds_toArray, List.set_cons_zero, List.set_cons_succ]
        refine wpAnyH_take (i := 23) (v := ?_) rfl (by kernel_rfl) (by kernel_rfl) (by kernel_rfl) (fun _ _ _ h => h) (Or.inl ⟨by rfl, ?_⟩) hHeld ?_
        rotate_left
        · intro w' hSw
          (try dsimp only at hSw)
          go_simp
          all_goals (with_reducible rfl)
        simp only [List.getElem_toArray, List.getElem_cons_succ, List.getElem_cons_zero, Act.put, List.setIfInBounds_toArray, List.set_cons_zero, List.set_cons_succ]
        refine wpAnyH_take (i := 24) (v := ?_) rfl (by kernel_rfl) (by kernel_rfl) (by kernel_rfl) (fun _ _ _ h => h) (Or.inl ⟨by rfl, ?_⟩) hHeld ?_
        rotate_left
        · intro w' hSw
          (try dsimp only at hSw)
          go_simp
          all_goals (with_reducible rfl)
        simp only [List.getElem_toArray, List.getElem_cons_succ, List.getElem_cons_zero, Act.put, List.setIfInBounds_toArray, List.set_cons_zero, List.set_cons_succ]
        refine wpAnyH_take (i := 25) (v := ?_) rfl (by kernel_rfl) (by kernel_rfl) (by kernel_rfl) (fun _ _ _ h => h) (Or.inl ⟨by rfl, ?_⟩) hHeld ?_
        rotate_left
        · intro w' hSw
          (try dsimp only at hSw)
          go_simp
          all_goals (with_reducible rfl)
        simp only [List.getElem_toArray, List.getElem_cons_succ, List.getElem_cons_zero, Act.put, List.setIfInBounds_toArray, List.set_cons_zero, List.set_cons_succ]
        refine wpAnyH_take (i := 26) (v := ?_) rfl (by kernel_rfl) (by kernel_rfl) (by kernel_rfl) (fun _ _ _ h => h) (Or.inl ⟨by rfl, ?_⟩) hHeld ?_
        rotate_left
        · intro w' hSw
          (try dsimp only at hSw)
          go_simp
          all_goals (with_reducible rfl)
        simp only [List.getElem_toArray, List.getElem_cons_succ, List.getElem_cons_zero, Act.put, List.setIfInBounds_toArray, List.set_cons_zero, List.set_cons_succ]
        refine wpAnyH_ready (rs := [27]) (by kernel_rfl) (by simp) ?_
        refine AllReadyH.cons rfl (fun K' hK' => ?_) AllReadyH.nil
        go_simp
        refine (HO1.out _ K1.out).mono ?_
        rintro e w8 ⟨A7, m7, c7, qs, rfl, hm7, hl7, hb7, hv7, hB⟩
        have K3 := Lib.hid (K1.out.below hB)
        have L7 := Lib.hid hl7
        have V7 := Lib.hid hv7
        refine hK'.out _ _ ?_ (fun hHeld => ?_)
        · exact K3.out.nine
        clear hK' K' hB hl7 hb7 hv7
        refine wpAnyH_ready (rs := [28]) (by kernel_rfl) (by simp) ?_
        refine AllReadyH.cons rfl (fun K' hK' => ?_) AllReadyH.nil
        go_simp
        refine (HC1.out _ A7 m7 c7 qs K3.out L7.out V7.out hm7).mono ?_
        rintro e w9 ⟨rfl, hB⟩
        have K9 := Lib.hid (K3.out.below hB)
        refine hK'.out _ _ ?_ (fun hHeld => ?_)
        · exact K9.out.nine
        clear hK' K' hB
        refine wpAnyH_take (i := 29) (v := ?_) rfl (by kernel_rfl) (by kernel_rfl) (by kernel_rfl) (fun _ _ _ h => h) (Or.inl ⟨by rfl, ?_⟩) hHeld ?_
        rotate_left
        · intro w' hSw
          (try dsimp only at hSw)
          go_simp
          all_goals (with_reducible rfl)
        simp only [List.getElem_toArray, List.getElem_cons_succ, List.getElem_cons_zero, Act.put, List.setIfInBounds_toArray, List.set_cons_zero, List.set_cons_succ]
        refine wpAnyH_take (i := 30) (v := ?_) rfl (by kernel_rfl) (by kernel_rfl) (by kernel_rfl) (fun _ _ _ h => h) (Or.inl ⟨by rfl, ?_⟩) hHeld ?_
        rotate_left
        · intro w' hSw
          (try dsimp only at hSw)
          go_simp
          all_goals (with_reducible rfl)
        simp only [List.getElem_toArray, List.getElem_cons_succ, List.getElem_cons_zero, Act.put, List.setIfInBounds_toArray, List.set_cons_zero, List.set_cons_succ]
        refine wpAnyH_done (by kernel_rfl) ?_ _
        refine NoPanic.normal ?_
        clear K1 K3 L7 V7 hHeld
        have H0 := Lib.hid K9.out.1
        clear K9 K0 HBk HO1 HC1 HC0
        have l1 := lim_new1 w9 39 1 1 rfl (by decide)
        have hmk1 : mk false (val [1]) nn = some ⟨false, 1, nn⟩ := mk_odd_self (d := ⟨false, 1, nn⟩) (Or.inl ⟨0, rfl⟩) (by show -1073741824 ≤ nn; omega) (by show nn ≤ 1073741824; omega)
        have h4 := HP.out false (some ⟨w9.heap.size, 0, none⟩) 1 1 [1] nn mm 1 _ l1 (by decide) (H0.out.tab_.below (below1 _ _)) (by omega) (by omega) (by decide) (by decide)
        rw [hmk1] at h4
        have H4 := Lib.hid h4
        replace H0 := Lib.hid (H0.out.below (below1 w9 (.cells #[.int .u64 1] 39)))
        clear h4 l1 hmk1 HP
        go_wp2_with fail
        refine H4.out.mono ?_
        rintro e w10 ⟨A5, m5, c5, us, qg, qE, may, r6, rfl, hm5, hl5, hb5, hB6, hp6⟩
        have h9 := hp6
        unfold PowIs at h9
        simp only at h9
        rw [if_pos ⟨by decide, by decide⟩, show (1 : Int).toNat = 1 from rfl] at h9
        obtain ⟨rfl, h9⟩ := h9
        have hnm : nn * mm = pr := by rw [Int.mul_comm]; exact hpr
        have hmay : may = decide (-1075 ≤ pr ∧ pr ≤ 1024) ∧ (may = true → qg = false ∧ val us = 1 ∧ qE = pr) := by
          rcases h9 with ⟨h1, h2⟩ | ⟨h1, _, _, _, h2⟩
          · obtain ⟨q1, q2⟩ := (ex_two (by rw [hnm]; omega) (by rw [hnm]; omega)).1 h2
            rw [hnm] at q1 q2
            injection q1 with a1 a2 a3
            exact ⟨by rw [h1]; exact (decide_eq_true q2).symm, fun _ => ⟨a1, a2, a3⟩⟩
          · refine ⟨?_, fun h8 => by rw [h1] at h8; exact absurd h8 (by decide)⟩
            rw [h1]
            refine (decide_eq_false fun h8 => ?_).symm
            refine h2 ⟨false, 1, pr⟩ ((ex_two (by rw [hnm]; omega) (by rw [hnm]; omega)).2 ⟨by rw [hnm], ?_⟩)
            rw [hnm]; exact h8
        replace H0 := Lib.hid ((H0.out.below hB6).below (below1 _ (.cells #[.bool qg, .slice A5 m5 c5, .int .i64 qE] 35)))
        have HQ := Lib.hid (Bd.new w10 35 qg A5 m5 c5 qE)
        have HL5 := Lib.hid (hl5.alloc (.cells #[.bool qg, .slice A5 m5 c5, .int .i64 qE] 35))
        have HMy := Lib.hid hmay
        clear hB6 hl5 hb5 h9 hp6 hmay H4 hnm
        by_cases q1 : -1075 ≤ pr
        · have c1 : decide (-1075 ≤ pr) = true := decide_eq_true q1
          by_cases q2 : pr ≤ 1024
          · have c2 : decide (pr ≤ 1024) = true := decide_eq_true q2
            obtain rfl : may = true := by rw [HMy.out.1]; exact decide_eq_true ⟨q1, q2⟩
            obtain ⟨rfl, hu1, rfl⟩ := HMy.out.2 rfl
            have l2 := lim_new1 (w10.alloc (.cells #[.bool false, .slice A5 m5 c5, .int .i64 qE] 35)) 39 1 1 rfl (by decide)
            rw [World.size_alloc] at l2
            have s0 := HQ.out.c0
            have s1 := HQ.out.c1
            have s2 := HQ.out.c2
            have HC9 := Lib.hid (dcmp_l 0 false A5 m5 c5 us qE false (some ⟨w10.heap.size + 1, 0, none⟩) 1 1 [1] qE _ (HL5.out.below (below1 _ _)) l2 (by omega) (by decide) (H0.out.tab_.below (below1 _ _)) (by show _ = _; rw [hu1]; exact cmpI_eq rfl))
            replace H0 := Lib.hid (H0.out.below (below1 (w10.alloc (.cells #[.bool false, .slice A5 m5 c5, .int .i64 qE] 35)) (.cells #[.int .u64 1] 39)))
            clear l2 hu1 HMy HQ HL5 q1 q2
            go_wp2_with fail
            refine HC9.out.mono ?_
            rintro e w11 ⟨rfl, hB⟩
            have Hfin := Lib.hid (H0.out.below hB).old
            clear hB H0 HC9 s0 s1 s2
            go_wp2
            go_ret
            exact ⟨rfl, Hfin.out⟩
          · have c2 : decide (pr ≤ 1024) = false := decide_eq_false q2
            obtain rfl : may = false := by rw [HMy.out.1]; exact decide_eq_false (fun h => q2 h.2)
            have Hfin := Lib.hid H0.out.old
            clear H0 HMy HQ HL5 q1 q2
            go_wp2
            go_ret
            exact ⟨rfl, Hfin.out⟩
        · have c1 : decide (-1075 ≤ pr) = false := decide_eq_false q1
          obtain rfl : may = false := by rw [HMy.out.1]; exact decide_eq_false (fun h => q1 h.1)
          have Hfin := Lib.hid H0.out.old
          clear H0 HMy HQ HL5 q1
          go_wp2
          go_ret
          exact ⟨rfl, Hfin.out⟩

theorem walk_exactOnce' (HPow : PowerMeets) (g : Bool) (A : Option Addr) (n c : Nat) (xs : List Nat) (e0 ki ei : Int) (w : World) (hT : Tab w) (hA : Lim w A n c xs) (hk1 : -32768 ≤ ki) (hk2 : ki ≤ 32767) (he1 : -32768 ≤ ei) (he2 : ei ≤ 32767) :
    Calls Tryd.prog 5 #[.agg #[.bool g, .slice A n c, .int .i64 e0], .int .i16 ki, .int .i16 ei] w fun e w' => e = .returned (.bool true) ∧ Below w.heap.size w w' := by
  by_cases h : 20 < n
  · exact eonce_long HPow g A n c e0 ki ei w hT h
  · exact eonce_short HPow g A n c xs e0 ki ei w hT hA (by omega) hk1 hk2 he1 he2
end Go.Proofs.YtmmeejofepmgaaaDoor
