/- The walks of round.checked and round.To. -/
import Derived.Test.YtnkbdjbcfkflpaaDoorRnAll
namespace Go.Proofs.YtnkbdjbcfkflpaaDoor
open Go.RowKit

/-- What can be rounded. -/
def chk (o : Option Dy) (more : Bool) (dir : Int) : Option Dy :=
  if 0 ≤ dir ∧ dir ≤ 3 then (match o with | none => none | some d => if d.V = 0 ∧ more = true then none else some d) else none
def ChTold (w : World) (o : Option Dy) (L : Nat) (e : Ending) (w' : World) : Prop :=
  match o with
  | none => e = .returned (.tuple #[.agg #[.bool false, .slice none 0 0, .int .i64 0], .int .i64 1]) ∧ Below w.heap.size w w'
  | some d => ∃ A m c zs, e = .returned (.tuple #[.agg #[.bool d.neg, .slice A m c, .int .i64 d.e], .int .i64 0]) ∧ m ≤ L ∧ Lim w' A m c zs ∧ Bare zs ∧ val zs = d.V ∧ Below w.heap.size w w'

set_option maxHeartbeats 1000000 in
theorem chk_l (g : Bool) (A : Option Addr) (n c : Nat) (xs : List Nat) (e0 : Int) (more : Bool) (dir : Int) (w : World) (hA : Lim w A n c xs) (hn : n ≤ 4294967000) (hT : Tab w) :
    Calls Tryd.prog 98 #[.agg #[.bool g, .slice A n c, .int .i64 e0], .bool more, .int .i64 dir] w (ChTold w (chk (mk g (val xs) e0) more dir) n) := by
  have a3 : Below w.heap.size w ((w.alloc (.cells #[.bool g, .slice A n c, .int .i64 e0] 36)).alloc (.cells #[.bool false, .slice none 0 0, .int .i64 0] 36)) := ((Below.refl _ _).alloc (Nat.le_refl _) _).alloc (by simp) _
  have b1 := (Bd.new w 36 g A n c e0).alloc (.cells #[.bool false, .slice none 0 0, .int .i64 0] 36)
  have b2 := Bd.new (w.alloc (.cells #[.bool g, .slice A n c, .int .i64 e0] 36)) 36 false none 0 0 0
  rw [World.size_alloc] at b2
  have H1 := Lib.hid (dbare_any g A n c xs e0 _ (hA.below a3) (by omega) (hT.below a3))
  have Hb1 := Lib.hid b1
  have Hb2 := Lib.hid b2
  have HS := Lib.hid a3
  obtain ⟨o, ho⟩ : ∃ o, mk g (val xs) e0 = o := ⟨_, rfl⟩
  rw [ho] at H1 ⊢
  clear hA hT a3 b1 b2 ho
  obtain ⟨kn, hkn⟩ : ∃ kn, decide (0 ≤ dir ∧ dir ≤ 3) = kn := ⟨_, rfl⟩
  have Hkn := Lib.hid hkn
  cases o with
  | none =>
    have hc : chk none more dir = none := by unfold chk; split <;> rfl
    rw [hc]
    clear hc hkn Hkn
    go_enter Tryd.func98, Tryd.ntmps98
    go_wp2_with fail
    refine H1.out.mono ?_
    rintro e w2 ⟨g2, A2, m2, c2, zs, E2, r2, rfl, hm2, hl2, hb2, ⟨rfl, rfl, hz, rfl⟩, hB2⟩
    have k1 := Hb1.out.below hB2
    have k2 := Hb2.out.below hB2
    have Hfin : Hid (Below w.heap.size w (World.put (World.put w2 w.heap.size false A2 m2 c2 0) (w.heap.size + 1) false none 0 0 0)) := below_put (below_put (HS.out.trans (hB2.mono HS.out.size)) (Nat.le_refl _) _ _ _ _ _) (by omega) _ _ _ _ _
    have x0 := k1.c0
    have x1 := k1.c1
    have x2 := k1.c2
    have xf := k1.fz
    have y0 := k2.c0
    have y1 := k2.c1
    have y2 := k2.c2
    have yf := k2.fz
    clear k1 k2 hB2 hl2 hb2 hz H1 Hb1 Hb2 HS
    go_wp2
    exact bodyPost_ret (v := .tuple #[.agg #[.bool false, .slice none 0 0, .int .i64 0], .int .i64 1]) (by simp [results, Tryd.results98, go_sem, y0, y1, y2]) rfl ⟨rfl, Hfin.out⟩
  | some d =>
    obtain ⟨dg, dV, dE⟩ := d
    cases kn with
    | false =>
      have hc : chk (some ⟨dg, dV, dE⟩) more dir = none := by unfold chk; rw [if_neg (of_decide_eq_false hkn)]
      rw [hc]
      clear hc hkn
      go_enter Tryd.func98, Tryd.ntmps98
      go_wp2_with fail
      refine H1.out.mono ?_
      rintro e w2 ⟨g2, A2, m2, c2, zs, E2, r2, rfl, hm2, hl2, hb2, ⟨rfl, rfl, hz, rfl⟩, hB2⟩
      have k1 := Hb1.out.below hB2
      have k2 := Hb2.out.below hB2
      have Hfin : Hid (Below w.heap.size w (World.put (World.put w2 w.heap.size g2 A2 m2 c2 E2) (w.heap.size + 1) false none 0 0 0)) := below_put (below_put (HS.out.trans (hB2.mono HS.out.size)) (Nat.le_refl _) _ _ _ _ _) (by omega) _ _ _ _ _
      have x0 := k1.c0
      have x1 := k1.c1
      have x2 := k1.c2
      have xf := k1.fz
      have y0 := k2.c0
      have y1 := k2.c1
      have y2 := k2.c2
      have yf := k2.fz
      clear k1 k2 hB2 hl2 hb2 hz H1 Hb1 Hb2 HS
      go_wp2_with fail
      refine (known_l false dir _ Hkn).mono ?_
      rintro e w' ⟨rfl, rfl⟩
      go_wp2
      exact bodyPost_ret (v := .tuple #[.agg #[.bool false, .slice none 0 0, .int .i64 0], .int .i64 1]) (by simp [results, Tryd.results98, go_sem, y0, y1, y2]) rfl ⟨rfl, Hfin.out⟩
    | true =>
      have hk := of_decide_eq_true hkn
      have hc : chk (some ⟨dg, dV, dE⟩) more dir = if dV = 0 ∧ more = true then none else some ⟨dg, dV, dE⟩ := by unfold chk; rw [if_pos hk]
      rw [hc]
      clear hc hkn hk
      cases more with
      | false =>
        rw [if_neg (by simp)]
        go_enter Tryd.func98, Tryd.ntmps98
        go_wp2_with fail
        refine H1.out.mono ?_
        rintro e w2 ⟨g2, A2, m2, c2, zs, E2, r2, rfl, hm2, hl2, hb2, ⟨rfl, rfl, hz, rfl⟩, hB2⟩
        have k1 := Hb1.out.below hB2
        have k2 := Hb2.out.below hB2
        have k3 := k2.other (b' := w.heap.size) (by omega) g2 A2 m2 c2 E2
        have Hfin : Hid (ChTold w (some ⟨g2, dV, E2⟩) n (.returned (.tuple #[.agg #[.bool g2, .slice A2 m2 c2, .int .i64 E2], .int .i64 0])) (World.put (World.put w2 w.heap.size g2 A2 m2 c2 E2) (w.heap.size + 1) g2 A2 m2 c2 E2)) :=
          ⟨A2, m2, c2, zs, rfl, hm2, k3.lim (k1.lim hl2 _ _ _ _ _) _ _ _ _ _, hb2, hz, below_put (below_put (HS.out.trans (hB2.mono HS.out.size)) (Nat.le_refl _) _ _ _ _ _) (by omega) _ _ _ _ _⟩
        have x0 := k1.c0
        have x1 := k1.c1
        have x2 := k1.c2
        have xf := k1.fz
        have y0 := k2.c0
        have y1 := k2.c1
        have y2 := k2.c2
        have yf := k2.fz
        clear k1 k2 k3 hB2 hl2 hb2 hz H1 Hb1 Hb2 HS
        go_wp2_with fail
        refine (known_l true dir _ Hkn).mono ?_
        rintro e w' ⟨rfl, rfl⟩
        go_wp2
        exact bodyPost_ret (v := .tuple #[.agg #[.bool g2, .slice A2 m2 c2, .int .i64 E2], .int .i64 0]) (by simp [results, Tryd.results98, go_sem, y0, y1, y2]) rfl Hfin.out
      | true =>
        obtain ⟨sg, hsg⟩ : ∃ sg, sgD dg dV = sg := ⟨_, rfl⟩
        have Hsg := Lib.hid hsg
        by_cases hz0 : dV = 0
        · rw [if_pos ⟨hz0, rfl⟩]
          obtain rfl : sg = 0 := by rw [← hsg, hz0]; rfl
          clear hsg hz0
          go_enter Tryd.func98, Tryd.ntmps98
          go_wp2_with fail
          refine H1.out.mono ?_
          rintro e w2 ⟨g2, A2, m2, c2, zs, E2, r2, rfl, hm2, hl2, hb2, ⟨rfl, rfl, hz, rfl⟩, hB2⟩
          have k1 := Hb1.out.below hB2
          have k2 := Hb2.out.below hB2
          have HL := Lib.hid (k1.lim hl2 g2 A2 m2 c2 E2)
          have HK2 := Lib.hid (k2.other (b' := w.heap.size) (by omega) g2 A2 m2 c2 E2)
          have HS2 := Lib.hid (below_put (HS.out.trans (hB2.mono HS.out.size)) (Nat.le_refl _) g2 A2 m2 c2 E2)
          have Hz : Hid (sgD g2 (val zs) = 0) := by rw [hz]; exact Hsg.out
          have x0 := k1.c0
          have x1 := k1.c1
          have x2 := k1.c2
          have xf := k1.fz
          clear k1 k2 hB2 hl2 hb2 hz H1 Hb1 Hb2 HS Hsg
          go_wp2_with fail
          refine (known_l true dir _ Hkn).mono ?_
          rintro e w' ⟨rfl, rfl⟩
          go_wp2_with fail
          refine (sign_l 0 g2 A2 m2 c2 zs E2 _ HL.out (by omega) Hz).mono ?_
          rintro e w3 ⟨rfl, hB3⟩
          have k2 := HK2.out.below hB3
          have Hfin : Hid (Below w.heap.size w (World.put w3 (w.heap.size + 1) false none 0 0 0)) := below_put (HS2.out.trans (hB3.mono HS2.out.size)) (by omega) _ _ _ _ _
          have y0 := k2.c0
          have y1 := k2.c1
          have y2 := k2.c2
          have yf := k2.fz
          clear k2 hB3 HL HK2 HS2 Hz x0 x1 x2 xf
          go_wp2
          exact bodyPost_ret (v := .tuple #[.agg #[.bool false, .slice none 0 0, .int .i64 0], .int .i64 1]) (by simp [results, Tryd.results98, go_sem, y0, y1, y2]) rfl ⟨rfl, Hfin.out⟩
        · rw [if_neg (fun h => hz0 h.1)]
          have c1 : (sg == 0) = false := beq_no (by
            rw [← hsg]; unfold sgD; rw [if_neg hz0]; cases dg <;> decide)
          clear hsg hz0
          go_enter Tryd.func98, Tryd.ntmps98
          go_wp2_with fail
          refine H1.out.mono ?_
          rintro e w2 ⟨g2, A2, m2, c2, zs, E2, r2, rfl, hm2, hl2, hb2, ⟨rfl, rfl, hz, rfl⟩, hB2⟩
          have k1 := Hb1.out.below hB2
          have k2 := Hb2.out.below hB2
          have HL := Lib.hid (k1.lim hl2 g2 A2 m2 c2 E2)
          have HK1 := Lib.hid (k1.put g2 A2 m2 c2 E2)
          have HK2 := Lib.hid (k2.other (b' := w.heap.size) (by omega) g2 A2 m2 c2 E2)
          have HS2 := Lib.hid (below_put (HS.out.trans (hB2.mono HS.out.size)) (Nat.le_refl _) g2 A2 m2 c2 E2)
          have Hz : Hid (sgD g2 (val zs) = sg) := by rw [hz]; exact Hsg.out
          have Hzz := Lib.hid hz
          have Hb := Lib.hid hb2
          have x0 := k1.c0
          have x1 := k1.c1
          have x2 := k1.c2
          have xf := k1.fz
          clear k1 k2 hB2 hl2 hb2 hz H1 Hb1 Hb2 HS Hsg
          go_wp2_with fail
          refine (known_l true dir _ Hkn).mono ?_
          rintro e w' ⟨rfl, rfl⟩
          go_wp2_with fail
          refine (sign_l sg g2 A2 m2 c2 zs E2 _ HL.out (by omega) Hz).mono ?_
          rintro e w3 ⟨rfl, hB3⟩
          have k1 := HK1.out.below hB3
          have k2 := HK2.out.below hB3
          have Hfin : Hid (ChTold w (some ⟨g2, dV, E2⟩) n (.returned (.tuple #[.agg #[.bool g2, .slice A2 m2 c2, .int .i64 E2], .int .i64 0])) (World.put w3 (w.heap.size + 1) g2 A2 m2 c2 E2)) :=
            ⟨A2, m2, c2, zs, rfl, hm2, k2.lim (HL.out.below hB3) _ _ _ _ _, Hb.out, Hzz.out, below_put (HS2.out.trans (hB3.mono HS2.out.size)) (by omega) _ _ _ _ _⟩
          clear x0 x1 x2 xf
          have x0 := k1.c0
          have x1 := k1.c1
          have x2 := k1.c2
          have y0 := k2.c0
          have y1 := k2.c1
          have y2 := k2.c2
          have yf := k2.fz
          clear k1 k2 hB3 HL HK1 HK2 HS2 Hz Hzz Hb
          go_wp2
          exact bodyPost_ret (v := .tuple #[.agg #[.bool g2, .slice A2 m2 c2, .int .i64 E2], .int .i64 0]) (by simp [results, Tryd.results98, go_sem, y0, y1, y2]) rfl Hfin.out

/-- What To tells. -/
def toR (g : Bool) (V : Nat) (e : Int) (more : Bool) (dir : Int) : Nat × Nat × Int :=
  match chk (mk g V e) more dir with
  | none => (0, 0, 1)
  | some d => if d.V = 0 then (0, 0, 0) else ((rndO d.neg d.V d.e more dir).1, (rndO d.neg d.V d.e more dir).2, 0)


end Go.Proofs.YtnkbdjbcfkflpaaDoor
