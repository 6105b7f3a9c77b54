/- The walks of round.checked and round.To. -/
import Derived.Test.YtjdlnfmeciodnaaDoorRnAll
namespace Go.Proofs.YtjdlnfmeciodnaaDoor
open Go.RowKit

/-- What can be rounded. -/
def chk (o : Option Dy) (more : Bool) (dir : Int) : Option Dy :=
  if 0 ≤ dir ∧ dir ≤ 3 then (match o with | none => none | some d => if d.V = 0 ∧ more = true then none else some d) else none
def ChTold (w : World) (o : Option Dy) (L : Nat) (e : Ending) (w' : World) : Prop :=
  match o with
  | none => e = .returned (.tuple #[.agg #[.bool false, .slice none 0 0, .int .i64 0], .int .i64 1]) ∧ Below w.heap.size w w'
  | some d => ∃ A m c zs, e = .returned (.tuple #[.agg #[.bool d.neg, .slice A m c, .int .i64 d.e], .int .i64 0]) ∧ m ≤ L ∧ Lim w' A m c zs ∧ Bare zs ∧ val zs = d.V ∧ Below w.heap.size w w'

set_option maxHeartbeats 1000000 in
theorem chk_l (g : Bool) (A : Option Addr) (n c : Nat) (xs : List Nat) (e0 : Int) (more : Bool) (dir : Int) (w : World) (hA : Lim w A n c xs) (hn : n ≤ 4294967000) (hT : Tab w) :
    Calls Tryd.prog 23 #[.agg #[.bool g, .slice A n c, .int .i64 e0], .bool more, .int .i64 dir] w (ChTold w (chk (mk g (val xs) e0) more dir) n) := by
  have a3 : Below w.heap.size w ((w.alloc (.cells #[.bool g, .slice A n c, .int .i64 e0] 35)).alloc (.cells #[.bool false, .slice none 0 0, .int .i64 0] 35)) := ((Below.refl _ _).alloc (Nat.le_refl _) _).alloc (by simp) _
  have b1 := (Bd.new w 35 g A n c e0).alloc (.cells #[.bool false, .slice none 0 0, .int .i64 0] 35)
  have b2 := Bd.new (w.alloc (.cells #[.bool g, .slice A n c, .int .i64 e0] 35)) 35 false none 0 0 0
  rw [World.size_alloc] at b2
  have H1 := Lib.hid (dbare_any g A n c xs e0 _ (hA.below a3) (by omega) (hT.below a3))
  have Hb1 := Lib.hid b1
  have Hb2 := Lib.hid b2
  have HS := Lib.hid a3
  obtain ⟨o, ho⟩ : ∃ o, mk g (val xs) e0 = o := ⟨_, rfl⟩
  rw [ho] at H1 ⊢
  clear hA hT a3 b1 b2 ho
  obtain ⟨kn, hkn⟩ : ∃ kn, decide (0 ≤ dir ∧ dir ≤ 3) = kn := ⟨_, rfl⟩
  have Hkn := Lib.hid hkn
  cases o with
  | none =>
    have hc : chk none more dir = none := by unfold chk; split <;> rfl
    rw [hc]
    clear hc hkn Hkn
    go_enter Tryd.func23, Tryd.ntmps23
    go_wp2_with fail
    refine H1.out.mono ?_
    rintro e w2 ⟨g2, A2, m2, c2, zs, E2, r2, rfl, hm2, hl2, hb2, ⟨rfl, rfl, hz, rfl⟩, hB2⟩
    have k1 := Hb1.out.below hB2
    have k2 := Hb2.out.below hB2
    have Hfin : Hid (Below w.heap.size w (World.put (World.put w2 w.heap.size false A2 m2 c2 0) (w.heap.size + 1) false none 0 0 0)) := below_put (below_put (HS.out.trans (hB2.mono HS.out.size)) (Nat.le_refl _) _ _ _ _ _) (by omega) _ _ _ _ _
    have x0 := k1.c0
    have x1 := k1.c1
    have x2 := k1.c2
    have xf := k1.fz
    have y0 := k2.c0
    have y1 := k2.c1
    have y2 := k2.c2
    have yf := k2.fz
    clear k1 k2 hB2 hl2 hb2 hz H1 Hb1 Hb2 HS
    go_wp2
    exact bodyPost_ret (v := .tuple #[.agg #[.bool false, .slice none 0 0, .int .i64 0], .int .i64 1]) (by simp [results, Tryd.results23, go_sem, y0, y1, y2]) rfl ⟨rfl, Hfin.out⟩
  | some d =>
    obtain ⟨dg, dV, dE⟩ := d
    cases kn with
    | false =>
      have hc : chk (some ⟨dg, dV, dE⟩) more dir = none := by unfold chk; rw [if_neg (of_decide_eq_false hkn)]
      rw [hc]
      clear hc hkn
      go_enter Tryd.func23, Tryd.ntmps23
      go_wp2_with fail
      refine H1.out.mono ?_
      rintro e w2 ⟨g2, A2, m2, c2, zs, E2, r2, rfl, hm2, hl2, hb2, ⟨rfl, rfl, hz, rfl⟩, hB2⟩
      have k1 := Hb1.out.below hB2
      have k2 := Hb2.out.below hB2
      have Hfin : Hid (Below w.heap.size w (World.put (World.put w2 w.heap.size g2 A2 m2 c2 E2) (w.heap.size + 1) false none 0 0 0)) := below_put (below_put (HS.out.trans (hB2.mono HS.out.size)) (Nat.le_refl _) _ _ _ _ _) (by omega) _ _ _ _ _
      have x0 := k1.c0
      have x1 := k1.c1
      have x2 := k1.c2
      have xf := k1.fz
      have y0 := k2.c0
      have y1 := k2.c1
      have y2 := k2.c2
      have yf := k2.fz
      clear k1 k2 hB2 hl2 hb2 hz H1 Hb1 Hb2 HS
      go_wp2_with fail
      refine (known_l false dir _ Hkn).mono ?_
      rintro e w' ⟨rfl, rfl⟩
      go_wp2
      exact bodyPost_ret (v := .tuple #[.agg #[.bool false, .slice none 0 0, .int .i64 0], .int .i64 1]) (by simp [results, Tryd.results23, go_sem, y0, y1, y2]) rfl ⟨rfl, Hfin.out⟩
    | true =>
      have hk := of_decide_eq_true hkn
      have hc : chk (some ⟨dg, dV, dE⟩) more dir = if dV = 0 ∧ more = true then none else some ⟨dg, dV, dE⟩ := by unfold chk; rw [if_pos hk]
      rw [hc]
      clear hc hkn hk
      cases more with
      | false =>
        rw [if_neg (by simp)]
        go_enter Tryd.func23, Tryd.ntmps23
        go_wp2_with fail
        refine H1.out.mono ?_
        rintro e w2 ⟨g2, A2, m2, c2, zs, E2, r2, rfl, hm2, hl2, hb2, ⟨rfl, rfl, hz, rfl⟩, hB2⟩
        have k1 := Hb1.out.below hB2
        have k2 := Hb2.out.below hB2
        have k3 := k2.other (b' := w.heap.size) (by omega) g2 A2 m2 c2 E2
        have Hfin : Hid (ChTold w (some ⟨g2, dV, E2⟩) n (.returned (.tuple #[.agg #[.bool g2, .slice A2 m2 c2, .int .i64 E2], .int .i64 0])) (World.put (World.put w2 w.heap.size g2 A2 m2 c2 E2) (w.heap.size + 1) g2 A2 m2 c2 E2)) :=
          ⟨A2, m2, c2, zs, rfl, hm2, k3.lim (k1.lim hl2 _ _ _ _ _) _ _ _ _ _, hb2, hz, below_put (below_put (HS.out.trans (hB2.mono HS.out.size)) (Nat.le_refl _) _ _ _ _ _) (by omega) _ _ _ _ _⟩
        have x0 := k1.c0
        have x1 := k1.c1
        have x2 := k1.c2
        have xf := k1.fz
        have y0 := k2.c0
        have y1 := k2.c1
        have y2 := k2.c2
        have yf := k2.fz
        clear k1 k2 k3 hB2 hl2 hb2 hz H1 Hb1 Hb2 HS
        go_wp2_with fail
        refine (known_l true dir _ Hkn).mono ?_
        rintro e w' ⟨rfl, rfl⟩
        go_wp2
        exact bodyPost_ret (v := .tuple #[.agg #[.bool g2, .slice A2 m2 c2, .int .i64 E2], .int .i64 0]) (by simp [results, Tryd.results23, go_sem, y0, y1, y2]) rfl Hfin.out
      | true =>
        obtain ⟨sg, hsg⟩ : ∃ sg, sgD dg dV = sg := ⟨_, rfl⟩
        have Hsg := Lib.hid hsg
        by_cases hz0 : dV = 0
        · rw [if_pos ⟨hz0, rfl⟩]
          obtain rfl : sg = 0 := by rw [← hsg, hz0]; rfl
          clear hsg hz0
          go_enter Tryd.func23, Tryd.ntmps23
          go_wp2_with fail
          refine H1.out.mono ?_
          rintro e w2 ⟨g2, A2, m2, c2, zs, E2, r2, rfl, hm2, hl2, hb2, ⟨rfl, rfl, hz, rfl⟩, hB2⟩
          have k1 := Hb1.out.below hB2
          have k2 := Hb2.out.below hB2
          have HL := Lib.hid (k1.lim hl2 g2 A2 m2 c2 E2)
          have HK2 := Lib.hid (k2.other (b' := w.heap.size) (by omega) g2 A2 m2 c2 E2)
          have HS2 := Lib.hid (below_put (HS.out.trans (hB2.mono HS.out.size)) (Nat.le_refl _) g2 A2 m2 c2 E2)
          have Hz : Hid (sgD g2 (val zs) = 0) := by rw [hz]; exact Hsg.out
          have x0 := k1.c0
          have x1 := k1.c1
          have x2 := k1.c2
          have xf := k1.fz
          clear k1 k2 hB2 hl2 hb2 hz H1 Hb1 Hb2 HS Hsg
          go_wp2_with fail
          refine (known_l true dir _ Hkn).mono ?_
          rintro e w' ⟨rfl, rfl⟩
          go_wp2_with fail
          refine (sign_l 0 g2 A2 m2 c2 zs E2 _ HL.out (by omega) Hz).mono ?_
          rintro e w3 ⟨rfl, hB3⟩
          have k2 := HK2.out.below hB3
          have Hfin : Hid (Below w.heap.size w (World.put w3 (w.heap.size + 1) false none 0 0 0)) := below_put (HS2.out.trans (hB3.mono HS2.out.size)) (by omega) _ _ _ _ _
          have y0 := k2.c0
          have y1 := k2.c1
          have y2 := k2.c2
          have yf := k2.fz
          clear k2 hB3 HL HK2 HS2 Hz x0 x1 x2 xf
          go_wp2
          exact bodyPost_ret (v := .tuple #[.agg #[.bool false, .slice none 0 0, .int .i64 0], .int .i64 1]) (by simp [results, Tryd.results23, go_sem, y0, y1, y2]) rfl ⟨rfl, Hfin.out⟩
        · rw [if_neg (fun h => hz0 h.1)]
          have c1 : (sg == 0) = false := beq_no (by
            rw [← hsg]; unfold sgD; rw [if_neg hz0]; cases dg <;> decide)
          clear hsg hz0
          go_enter Tryd.func23, Tryd.ntmps23
          go_wp2_with fail
          refine H1.out.mono ?_
          rintro e w2 ⟨g2, A2, m2, c2, zs, E2, r2, rfl, hm2, hl2, hb2, ⟨rfl, rfl, hz, rfl⟩, hB2⟩
          have k1 := Hb1.out.below hB2
          have k2 := Hb2.out.below hB2
          have HL := Lib.hid (k1.lim hl2 g2 A2 m2 c2 E2)
          have HK1 := Lib.hid (k1.put g2 A2 m2 c2 E2)
          have HK2 := Lib.hid (k2.other (b' := w.heap.size) (by omega) g2 A2 m2 c2 E2)
          have HS2 := Lib.hid (below_put (HS.out.trans (hB2.mono HS.out.size)) (Nat.le_refl _) g2 A2 m2 c2 E2)
          have Hz : Hid (sgD g2 (val zs) = sg) := by rw [hz]; exact Hsg.out
          have Hzz := Lib.hid hz
          have Hb := Lib.hid hb2
          have x0 := k1.c0
          have x1 := k1.c1
          have x2 := k1.c2
          have xf := k1.fz
          clear k1 k2 hB2 hl2 hb2 hz H1 Hb1 Hb2 HS Hsg
          go_wp2_with fail
          refine (known_l true dir _ Hkn).mono ?_
          rintro e w' ⟨rfl, rfl⟩
          go_wp2_with fail
          refine (sign_l sg g2 A2 m2 c2 zs E2 _ HL.out (by omega) Hz).mono ?_
          rintro e w3 ⟨rfl, hB3⟩
          have k1 := HK1.out.below hB3
          have k2 := HK2.out.below hB3
          have Hfin : Hid (ChTold w (some ⟨g2, dV, E2⟩) n (.returned (.tuple #[.agg #[.bool g2, .slice A2 m2 c2, .int .i64 E2], .int .i64 0])) (World.put w3 (w.heap.size + 1) g2 A2 m2 c2 E2)) :=
            ⟨A2, m2, c2, zs, rfl, hm2, k2.lim (HL.out.below hB3) _ _ _ _ _, Hb.out, Hzz.out, below_put (HS2.out.trans (hB3.mono HS2.out.size)) (by omega) _ _ _ _ _⟩
          clear x0 x1 x2 xf
          have x0 := k1.c0
          have x1 := k1.c1
          have x2 := k1.c2
          have y0 := k2.c0
          have y1 := k2.c1
          have y2 := k2.c2
          have yf := k2.fz
          clear k1 k2 hB3 HL HK1 HK2 HS2 Hz Hzz Hb
          go_wp2
          exact bodyPost_ret (v := .tuple #[.agg #[.bool g2, .slice A2 m2 c2, .int .i64 E2], .int .i64 0]) (by simp [results, Tryd.results23, go_sem, y0, y1, y2]) rfl Hfin.out

/-- What To tells. -/
def toR (g : Bool) (V : Nat) (e : Int) (more : Bool) (dir : Int) : Nat × Nat × Int :=
  match chk (mk g V e) more dir with
  | none => (0, 0, 1)
  | some d => if d.V = 0 then (0, 0, 0) else ((rndO d.neg d.V d.e more dir).1, (rndO d.neg d.V d.e more dir).2, 0)

set_option maxHeartbeats 1000000 in
theorem to_l (X F : Nat) (E : Int) (g : Bool) (A : Option Addr) (n c : Nat) (xs : List Nat) (e0 : Int) (more : Bool) (dir : Int) (w : World) (hA : Lim w A n c xs) (hn : n ≤ 4294967000) (hT : Tab w) (hX : Hid (toR g (val xs) e0 more dir = (X, F, E))) :
    Calls Tryd.prog 8 #[.agg #[.bool g, .slice A n c, .int .i64 e0], .bool more, .int .i64 dir] w fun e w' => e = .returned (.tuple #[.int .u64 (X : Int), .int .u8 (F : Int), .int .i64 E]) ∧ Below w.heap.size w w' := by
  have a3 := below1 w (.cells #[.bool g, .slice A n c, .int .i64 e0] 35)
  have HS := Lib.hid a3
  have Hb1 := Lib.hid (Bd.new w 35 g A n c e0)
  have H1 := Lib.hid (chk_l g A n c xs e0 more dir _ (hA.below a3) hn (hT.below a3))
  have HT := Lib.hid (hT.below a3)
  have hX' := hX.out
  unfold toR at hX'
  have hfine : ∀ d, chk (mk g (val xs) e0) more dir = some d → Fine d := fun d hd => by
    unfold chk at hd
    split at hd
    · split at hd
      · cases hd
      · rename_i d' hd'
        split at hd
        · cases hd
        · obtain rfl := Option.some.inj hd
          exact (mk_fine hd').1
    · cases hd
  obtain ⟨o, ho⟩ : ∃ o, chk (mk g (val xs) e0) more dir = o := ⟨_, rfl⟩
  rw [ho] at H1 hX' hfine
  clear hA hT a3 ho hX
  cases o with
  | none =>
    obtain ⟨rfl, h⟩ := Prod.mk.inj hX'
    obtain ⟨rfl, rfl⟩ := Prod.mk.inj h
    clear h hX' hfine
    go_enter Tryd.func8, Tryd.ntmps8
    go_wp2_with fail
    refine H1.out.mono ?_
    rintro e w2 ⟨rfl, hB2⟩
    have k1 := Hb1.out.below hB2
    have Hfin : Hid (Below w.heap.size w (World.put w2 w.heap.size false none 0 0 0)) := below_put (HS.out.trans (hB2.mono HS.out.size)) (Nat.le_refl _) _ _ _ _ _
    have x0 := k1.c0
    have x1 := k1.c1
    have x2 := k1.c2
    have xf := k1.fz
    clear k1 hB2 H1 Hb1 HS HT
    go_wp2
    go_ret3
    exact ⟨rfl, Hfin.out⟩
  | some d =>
    have hf := hfine d rfl
    obtain ⟨dg, dV, dE⟩ := d
    have hf1 := hf.1
    have hf2 := hf.2.1
    have hfh := hf.held
    simp only at hX' hf1 hf2 hfh
    clear hf hfine
    by_cases h0 : dV = 0
    · rw [if_pos h0] at hX'
      obtain ⟨rfl, h⟩ := Prod.mk.inj hX'
      obtain ⟨rfl, rfl⟩ := Prod.mk.inj h
      clear h hX'
      go_enter Tryd.func8, Tryd.ntmps8
      go_wp2_with fail
      refine H1.out.mono ?_
      rintro e w2 ⟨A2, m2, c2, zs, rfl, hm2, hl2, hb2, hz, hB2⟩
      have k1 := Hb1.out.below hB2
      have H2 := Lib.hid (top_zero dg A2 m2 c2 zs dE _ (k1.lim hl2 dg A2 m2 c2 dE) (by omega) (by rw [hz]; exact h0))
      have HS2 := Lib.hid (below_put (HS.out.trans (hB2.mono HS.out.size)) (Nat.le_refl _) dg A2 m2 c2 dE)
      have x0 := k1.c0
      have x1 := k1.c1
      have x2 := k1.c2
      have xf := k1.fz
      clear k1 hB2 hl2 hb2 hz H1 Hb1 HS HT h0
      go_wp2_with fail
      refine H2.out.mono ?_
      rintro e w3 ⟨rfl, hB3⟩
      have Hfin := Lib.hid (HS2.out.trans (hB3.mono HS2.out.size))
      clear HS2 hB3 H2 x0 x1 x2 xf
      go_wp2
      go_ret3
      exact ⟨rfl, Hfin.out⟩
    · rw [if_neg h0] at hX'
      obtain ⟨hX1, h⟩ := Prod.mk.inj hX'
      obtain ⟨hF1, rfl⟩ := Prod.mk.inj h
      have HR : Hid (rndO dg dV dE more dir = (X, F)) := Prod.ext hX1 hF1
      clear h hX' hX1 hF1
      obtain ⟨tp, htp⟩ : ∃ tp, rtop dV dE = tp := ⟨_, rfl⟩
      have Htp := Lib.hid htp
      have Htd : Hid (topD dV dE = tp) := by show topD dV dE = tp; unfold topD; rw [hfh]; exact htp
      clear htp
      go_enter Tryd.func8, Tryd.ntmps8
      go_wp2_with fail
      refine H1.out.mono ?_
      rintro e w2 ⟨A2, m2, c2, zs, rfl, hm2, hl2, hb2, hz, hB2⟩
      have k1 := Hb1.out.below hB2
      have hLL := k1.lim hl2 dg A2 m2 c2 dE
      have hTT := k1.tab (HT.out.below hB2) dg A2 m2 c2 dE
      have H2 := Lib.hid (top_l tp dg A2 m2 c2 zs dE _ hLL (by omega) (by rw [hz]; exact h0) (by rw [hz]; exact Htd))
      have HS2 := Lib.hid (below_put (HS.out.trans (hB2.mono HS.out.size)) (Nat.le_refl _) dg A2 m2 c2 dE)
      have HK := Lib.hid (k1.put dg A2 m2 c2 dE)
      have H3 : Hid (∀ u, Below (World.put w2 w.heap.size dg A2 m2 c2 dE).heap.size (World.put w2 w.heap.size dg A2 m2 c2 dE) u → Calls Tryd.prog 25 #[.agg #[.bool dg, .slice A2 m2 c2, .int .i64 dE], .int .i64 tp, .bool more, .int .i64 dir] u fun e w' => e = .returned (.tuple #[.int .u64 (X : Int), .int .u8 (F : Int)]) ∧ Below u.heap.size u w') := fun u hu =>
        rlaid_l X F dg more A2 m2 c2 zs dE tp dir u (hLL.below hu) (by omega) (hTT.below hu) (by rw [hz]; exact h0) hf1 hf2 (by rw [hz]; exact Htp) (by rw [hz]; exact HR)
      have x0 := k1.c0
      have x1 := k1.c1
      have x2 := k1.c2
      have xf := k1.fz
      clear k1 hB2 hl2 hb2 hz H1 Hb1 HS HT h0 hLL hTT HR Htp Htd hfh
      go_wp2_with fail
      refine H2.out.mono ?_
      rintro e w3 ⟨rfl, hB3⟩
      have k3 := HK.out.below hB3
      have H4 := Lib.hid (H3.out w3 hB3)
      have HS3 := Lib.hid (HS2.out.trans (hB3.mono HS2.out.size))
      clear HS2 hB3 H2 x0 x1 x2 xf H3 HK
      have x0 := k3.c0
      have x1 := k3.c1
      have x2 := k3.c2
      clear k3
      go_wp2_with fail
      refine H4.out.mono ?_
      rintro e w4 ⟨rfl, hB4⟩
      have Hfin := Lib.hid (HS3.out.trans (hB4.mono HS3.out.size))
      clear HS3 hB4 H4 x0 x1 x2
      go_wp2
      go_ret3
      exact ⟨rfl, Hfin.out⟩
end Go.Proofs.YtjdlnfmeciodnaaDoor
