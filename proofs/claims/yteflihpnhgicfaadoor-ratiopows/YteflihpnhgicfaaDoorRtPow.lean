/- The walks of ratio.Fits and ratio.Pow. -/
import Derived.Test.YteflihpnhgicfaaDoorRtPower
namespace Go.Proofs.YteflihpnhgicfaaDoor
open Go.RowKit

def fitO (o : Option Dy) (m : Int) : Bool :=
  match o with
  | none => false
  | some d => fitB d.V d.e m
/-- What Pow tells: a dyad and an error. -/
def powR (o : Option Dy) (m : Int) : Dy × Int :=
  match o with
  | none => (⟨false, 0, 0⟩, 1)
  | some d => if m < 0 then (⟨false, 0, 0⟩, 1) else if fitB d.V d.e m then (powD d m.toNat, 0) else (⟨false, 0, 0⟩, 2)
def ToldR (w : World) (p : Dy) (r : Int) (e : Ending) (w' : World) : Prop :=
  ∃ A m c zs, e = .returned (.tuple #[.agg #[.bool p.neg, .slice A m c, .int .i64 p.e], .int .i64 r]) ∧ m ≤ 1024 ∧ Lim w' A m c zs ∧ Bare zs ∧ val zs = p.V ∧ Below w.heap.size w w'

set_option maxHeartbeats 1000000 in
theorem rfits_l (v : Bool) (g : Bool) (A : Option Addr) (n c : Nat) (xs : List Nat) (e0 m : Int) (w : World) (hA : Lim w A n c xs) (hn : n ≤ 4294967296) (hT : Tab w) (h1 : -9223372036854775808 ≤ m) (h2 : m ≤ 9223372036854775807) (hv : Hid (fitO (mk g (val xs) e0) m = v)) :
    Calls Tryd.prog 10 #[.agg #[.bool g, .slice A n c, .int .i64 e0], .int .i64 m] w fun e w' => e = .returned (.bool v) ∧ Below w.heap.size w w' := by
  have a1 := below1 w (.cells #[.bool g, .slice A n c, .int .i64 e0] 30)
  have H1 := dbare_any g A n c xs e0 _ (hA.below a1) hn (hT.below a1)
  obtain ⟨o, ho⟩ : ∃ o, mk g (val xs) e0 = o := ⟨_, rfl⟩
  have hv' := hv.out
  rw [ho] at H1 hv'
  replace H1 := Lib.hid H1
  have Hb := Lib.hid (Bd.new w 30 g A n c e0)
  have HS := Lib.hid a1
  have HO := Lib.hid ho
  clear a1 hA hT hv ho
  go_enter Tryd.func10, Tryd.ntmps10
  go_wp2_with fail
  refine H1.out.mono ?_
  rintro e w1 ⟨g1, A1, m1, c1, zs, E1, r1, rfl, hm1, hl1, hb1, his1, hB1⟩
  have k1 := Hb.out.below hB1
  have x0 := k1.c0
  have x1 := k1.c1
  have x2 := k1.c2
  have xf := k1.fz
  have Hp := Lib.hid (k1.put g1 A1 m1 c1 E1)
  have HL := Lib.hid (k1.lim hl1 g1 A1 m1 c1 E1)
  have HS1 := Lib.hid (below_put (HS.out.trans (hB1.mono HS.out.size)) (Nat.le_refl _) g1 A1 m1 c1 E1)
  clear k1 hl1 hb1 hB1 H1 Hb HS
  cases o with
  | none =>
    obtain ⟨rfl, rfl, hz, rfl⟩ := his1
    obtain rfl : false = v := hv'
    clear Hp HL hz HO
    go_wp2
    go_ret
    exact ⟨rfl, HS1.out⟩
  | some d =>
    obtain ⟨rfl, h3, hz, h4⟩ := his1
    obtain ⟨_, o1, o2⟩ := mk_odd_of HO.out
    have hv2 : fitB d.V d.e m = v := hv'
    rw [← h4] at o1 o2 hv2
    have H2 := Lib.hid (short_l v g1 A1 m1 c1 zs E1 m _ HL.out (by omega) o1 o2 h1 h2 (by show _ = _; rw [hz]; exact hv2))
    have y0 := Hp.out.c0
    have y1 := Hp.out.c1
    have y2 := Hp.out.c2
    clear hz h3 h4 hv' hv2 HO HL Hp o1 o2
    go_wp2_with fail
    refine H2.out.mono ?_
    rintro e w2 ⟨rfl, hB2⟩
    have Hfin := Lib.hid (HS1.out.trans (hB2.mono HS1.out.size))
    clear hB2 H2 HS1 x0 x1 x2 xf y0 y1 y2
    go_wp2
    go_ret
    exact ⟨rfl, Hfin.out⟩

set_option maxHeartbeats 2000000 in
theorem rpow_l (p : Dy) (r : Int) (g : Bool) (A : Option Addr) (n c : Nat) (xs : List Nat) (e0 m : Int) (w : World) (hA : Lim w A n c xs) (hn : n ≤ 1000000) (hT : Tab w) (h1 : -9223372036854775808 ≤ m) (h2 : m ≤ 9223372036854775807) (hv : Hid (powR (mk g (val xs) e0) m = (p, r))) :
    Calls Tryd.prog 9 #[.agg #[.bool g, .slice A n c, .int .i64 e0], .int .i64 m] w (ToldR w p r) := by
  have a3 : Below w.heap.size w ((w.alloc (.cells #[.bool g, .slice A n c, .int .i64 e0] 30)).alloc (.cells #[.bool false, .slice none 0 0, .int .i64 0] 30)) := ((Below.refl _ _).alloc (Nat.le_refl _) _).alloc (by simp) _
  have H1 := dbare_any g A n c xs e0 _ (hA.below a3) (by omega) (hT.below a3)
  obtain ⟨o, ho⟩ : ∃ o, mk g (val xs) e0 = o := ⟨_, rfl⟩
  have hv' := hv.out
  rw [ho] at H1 hv'
  replace H1 := Lib.hid H1
  have b1 := (Bd.new w 30 g A n c e0).alloc (.cells #[.bool false, .slice none 0 0, .int .i64 0] 30)
  have b2 := Bd.new (w.alloc (.cells #[.bool g, .slice A n c, .int .i64 e0] 30)) 30 false none 0 0 0
  rw [World.size_alloc] at b2
  have Hb1 := Lib.hid b1
  have Hb2 := Lib.hid b2
  have HS := Lib.hid a3
  have HO := Lib.hid ho
  have HT := Lib.hid (hT.below a3)
  clear a3 hA hT hv ho b1 b2
  go_enter Tryd.func9, Tryd.ntmps9
  go_wp2_with fail
  refine H1.out.mono ?_
  rintro e w1 ⟨g1, A1, m1, c1, zs, E1, r1, rfl, hm1, hl1, hb1, his1, hB1⟩
  have k1 := Hb1.out.below hB1
  have k2 := (Hb2.out.below hB1).other (b' := w.heap.size) (by omega) g1 A1 m1 c1 E1
  have x0 := k1.c0
  have x1 := k1.c1
  have x2 := k1.c2
  have xf := k1.fz
  have HT1 := Lib.hid (k1.tab (HT.out.below hB1) g1 A1 m1 c1 E1)
  have Hp := Lib.hid (k1.put g1 A1 m1 c1 E1)
  have HL := Lib.hid (k1.lim hl1 g1 A1 m1 c1 E1)
  have HS1 := Lib.hid (below_put (HS.out.trans (hB1.mono HS.out.size)) (Nat.le_refl _) g1 A1 m1 c1 E1)
  replace Hb2 := Lib.hid k2
  clear k1 k2 hl1 hb1 hB1 H1 Hb1 HS HT
  have z0 := Hb2.out.c0
  have z1 := Hb2.out.c1
  have z2 := Hb2.out.c2
  have zf := Hb2.out.fz
  cases o with
  | none =>
    obtain ⟨rfl, rfl, hz, rfl⟩ := his1
    obtain ⟨rfl, rfl⟩ : p = ⟨false, 0, 0⟩ ∧ r = 1 := by injection hv' with a b; exact ⟨a.symm, b.symm⟩
    have Hfin : Hid (ToldR w ⟨false, 0, 0⟩ 1 (.returned (.tuple #[.agg #[.bool false, .slice none 0 0, .int .i64 0], .int .i64 1])) (World.put (World.put w1 w.heap.size false A1 m1 c1 0) (w.heap.size + 1) false none 0 0 0)) :=
      ⟨none, 0, 0, [], rfl, by omega, Lim.nil _ _ _, rfl, rfl, below_put HS1.out (Nat.le_succ _) _ _ _ _ _⟩
    clear Hp HL hz HO Hb2 HS1 HT1
    go_wp2
    exact bodyPost_ret (v := .tuple #[.agg #[.bool false, .slice none 0 0, .int .i64 0], .int .i64 1]) (by simp [results, Tryd.results9, go_sem, z0, z1, z2]) rfl Hfin.out
  | some d =>
    obtain ⟨rfl, h3, hz, h4⟩ := his1
    obtain ⟨od, o1, o2⟩ := mk_odd_of HO.out
    unfold powR at hv'
    simp only at hv'
    by_cases hneg : m < 0
    · rw [if_pos hneg] at hv'
      obtain ⟨rfl, rfl⟩ : p = ⟨false, 0, 0⟩ ∧ r = 1 := by injection hv' with a b; exact ⟨a.symm, b.symm⟩
      have b3 : decide (m < 0) = true := decide_eq_true hneg
      have Hfin : Hid (ToldR w ⟨false, 0, 0⟩ 1 (.returned (.tuple #[.agg #[.bool false, .slice none 0 0, .int .i64 0], .int .i64 1])) (World.put (World.put w1 w.heap.size g1 A1 m1 c1 E1) (w.heap.size + 1) false none 0 0 0)) :=
        ⟨none, 0, 0, [], rfl, by omega, Lim.nil _ _ _, rfl, rfl, below_put HS1.out (Nat.le_succ _) _ _ _ _ _⟩
      clear Hp HL hz HO Hb2 HS1 HT1 h3 h4 od o1 o2 hv' hneg
      go_wp2
      exact bodyPost_ret (v := .tuple #[.agg #[.bool false, .slice none 0 0, .int .i64 0], .int .i64 1]) (by simp [results, Tryd.results9, go_sem, z0, z1, z2]) rfl Hfin.out
    · rw [if_neg hneg] at hv'
      have b3 : decide (m < 0) = false := decide_eq_false hneg
      obtain ⟨mm, rfl⟩ : ∃ mm : Nat, m = (mm : Int) := ⟨m.toNat, by omega⟩
      rw [Int.toNat_natCast] at hv'
      obtain ⟨F, hF⟩ : ∃ F, fitB d.V d.e (mm : Int) = F := ⟨_, rfl⟩
      have H2 := Lib.hid (short_l F g1 A1 m1 c1 zs E1 mm _ HL.out (by omega) (by rw [h4]; exact o1) (by rw [h4]; exact o2) h1 h2 (by show _ = _; rw [hz, h4]; exact hF))
      have y0 := Hp.out.c0
      have y1 := Hp.out.c1
      have y2 := Hp.out.c2
      rw [hF] at hv'
      have H34 : Hid (g1 = d.neg ∧ val zs = d.V ∧ E1 = d.e ∧ fitB d.V d.e (mm : Int) = F ∧ Odd d) := ⟨h3, hz, h4, hF, od⟩
      clear o1 o2 h3 hz h4 hF od HO
      go_wp2_with fail
      refine H2.out.mono ?_
      rintro e w2 ⟨rfl, hB2⟩
      clear H2 x0 x1 x2 xf y0 y1 y2 z0 z1 z2 zf
      replace Hb2 := Lib.hid (Hb2.out.below hB2)
      replace Hp := Lib.hid (Hp.out.below hB2)
      replace HL := Lib.hid (HL.out.below hB2)
      replace HT1 := Lib.hid (HT1.out.below hB2)
      replace HS1 := Lib.hid (HS1.out.trans (hB2.mono HS1.out.size))
      clear hB2
      cases F with
      | false =>
        obtain ⟨rfl, rfl⟩ : p = ⟨false, 0, 0⟩ ∧ r = 2 := by injection hv' with a b; exact ⟨a.symm, b.symm⟩
        have z0 := Hb2.out.c0
        have z1 := Hb2.out.c1
        have z2 := Hb2.out.c2
        have zf := Hb2.out.fz
        have Hfin : Hid (ToldR w ⟨false, 0, 0⟩ 2 (.returned (.tuple #[.agg #[.bool false, .slice none 0 0, .int .i64 0], .int .i64 2])) (World.put w2 (w.heap.size + 1) false none 0 0 0)) :=
          ⟨none, 0, 0, [], rfl, by omega, Lim.nil _ _ _, rfl, rfl, below_put HS1.out (Nat.le_succ _) _ _ _ _ _⟩
        clear Hp HL Hb2 HS1 HT1 H34 hv'
        go_wp2
        exact bodyPost_ret (v := .tuple #[.agg #[.bool false, .slice none 0 0, .int .i64 0], .int .i64 2]) (by simp [results, Tryd.results9, go_sem, z0, z1, z2]) rfl Hfin.out
      | true =>
        obtain ⟨hpp, rfl⟩ : p = powD d mm ∧ r = 0 := by injection hv' with a b; exact ⟨a.symm, b.symm⟩
        obtain ⟨h3, hz, h4, hF, od⟩ := H34.out
        unfold fitB at hF
        rw [Bool.and_eq_true, Int.natAbs_natCast] at hF
        have H3 := power_any d A1 m1 c1 zs mm w2 HL.out (by omega) HT1.out hz od (by omega) (of_decide_eq_true hF.1) (of_decide_eq_true hF.2)
        rw [← h3, ← h4, ← hpp] at H3
        replace H3 := Lib.hid H3
        have y0 := Hp.out.c0
        have y1 := Hp.out.c1
        have y2 := Hp.out.c2
        obtain ⟨pg, pV, pE⟩ := p
        simp only at H3
        clear hpp hF hv' hz HL Hp HT1 od h3 h4 H34
        go_wp2_with fail
        refine H3.out.mono ?_
        rintro e w3 ⟨A3, m3, c3, us, rfl, hm3, hl3, hb3, hv3, hB3⟩
        have k2 := Hb2.out.below hB3
        have z0 := k2.c0
        have z1 := k2.c1
        have z2 := k2.c2
        have zf := k2.fz
        have Hfin : Hid (ToldR w ⟨pg, pV, pE⟩ 0 (.returned (.tuple #[.agg #[.bool pg, .slice A3 m3 c3, .int .i64 pE], .int .i64 0])) (World.put w3 (w.heap.size + 1) pg A3 m3 c3 pE)) :=
          ⟨A3, m3, c3, us, rfl, hm3, k2.lim hl3 _ _ _ _ _, hb3, hv3, below_put (HS1.out.trans (hB3.mono HS1.out.size)) (Nat.le_succ _) _ _ _ _ _⟩
        clear k2 hl3 hb3 hv3 hB3 HS1 Hb2 H3 y0 y1 y2
        go_wp2
        exact bodyPost_ret (v := .tuple #[.agg #[.bool pg, .slice A3 m3 c3, .int .i64 pE], .int .i64 0]) (by simp [results, Tryd.results9, go_sem, z0, z1, z2]) rfl Hfin.out
end Go.Proofs.YteflihpnhgicfaaDoor
