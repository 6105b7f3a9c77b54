/- The walk of logs.Log: its contract. -/
import Derived.Test.YtijhdlkfihjbiaaDoorLgHeld
namespace Go.Proofs.YtijhdlkfihjbiaaDoor
open Go.RowKit

/-- What Log tells. -/
def LogP (g : Bool) (V : Nat) (e0 s : Int) (d1 d2 : Dy) (r : Int) (m1 m2 : Nat) : Prop :=
  (∃ d L H, mk g V e0 = some d ∧ LogD d ∧ (8 ≤ s ∧ s ≤ 9000) ∧ r = 0 ∧ LogV d s.toNat L H ∧ Un s.toNat L d1 ∧ Un s.toNat H d2) ∨
  (¬ ((∃ d, mk g V e0 = some d ∧ LogD d) ∧ 8 ≤ s ∧ s ≤ 9000) ∧ r = 1 ∧ m1 = 0 ∧ m2 = 0)
/-- The result's block, behind another one. -/
def HoldL3 (w u : World) : Prop := Ib u (w.heap.size + 1) false none 0 0 0 false none 0 0 0 ∧ Tab u ∧ Below w.heap.size w u
section
variable {w u u' : World}
theorem HoldL3.below (h : HoldL3 w u) (hb : Below u.heap.size u u') : HoldL3 w u' := ⟨h.1.below hb, h.2.1.below hb, h.2.2.trans (hb.mono h.2.2.size)⟩
theorem HoldL3.tab (h : HoldL3 w u) : Tab u := h.2.1
theorem HoldL3.all (h : HoldL3 w u) : Below w.heap.size w u := h.2.2
theorem HoldL3.start (hT : Tab w) (g : Bool) (A : Option Addr) (n c : Nat) (e : Int) : HoldL3 w ((w.alloc (.cells #[.bool g, .slice A n c, .int .i64 e] 27)).alloc (.cells #[.bool false, .slice none 0 0, .int .i64 0, .bool false, .slice none 0 0, .int .i64 0] 29)) := by
  have a := below1 w (.cells #[.bool g, .slice A n c, .int .i64 e] 27)
  have b := below1 (w.alloc (.cells #[.bool g, .slice A n c, .int .i64 e] 27)) (.cells #[.bool false, .slice none 0 0, .int .i64 0, .bool false, .slice none 0 0, .int .i64 0] 29)
  have n := Ib.new (w.alloc (.cells #[.bool g, .slice A n c, .int .i64 e] 27)) false none 0 0 0 false none 0 0 0
  rw [World.size_alloc] at n
  exact ⟨n, (hT.below a).below b, a.trans (b.mono a.size)⟩
theorem HoldL3.out (h : HoldL3 w u) {P : Dy → Dy → Int → Nat → Nat → Prop} {g1 : Bool} {A1 : Option Addr} {m1 c1 : Nat} {zs : List Nat} {e1 : Int} {g2 : Bool} {A2 : Option Addr} {m2 c2 : Nat} {us : List Nat} {e2 r : Int}
    (hm1 : m1 ≤ 300) (hm2 : m2 ≤ 300) (h1 : Lim u A1 m1 c1 zs) (h2 : Lim u A2 m2 c2 us) (b1 : Bare zs) (b2 : Bare us) (hP : P ⟨g1, val zs, e1⟩ ⟨g2, val us, e2⟩ r m1 m2) :
    ITold w P (.returned (.tuple #[.agg #[.bool g1, .slice A1 m1 c1, .int .i64 e1, .bool g2, .slice A2 m2 c2, .int .i64 e2], .int .i64 r])) (World.put6 u (w.heap.size + 1) g1 A1 m1 c1 e1 g2 A2 m2 c2 e2) :=
  ⟨g1, A1, m1, c1, zs, e1, g2, A2, m2, c2, us, e2, r, rfl, hm1, hm2, h.1.lim h1 _ _ _ _ _ _ _ _ _ _, h.1.lim h2 _ _ _ _ _ _ _ _ _ _, b1, b2, below_put6 h.2.2 (Nat.le_succ _) _ _ _ _ _ _ _ _ _ _, hP⟩
theorem HoldL3.no (h : HoldL3 w u) {P : Dy → Dy → Int → Nat → Nat → Prop} (hP : P ⟨false, 0, 0⟩ ⟨false, 0, 0⟩ 1 0 0) :
    ITold w P (.returned (.tuple #[.agg #[.bool false, .slice none 0 0, .int .i64 0, .bool false, .slice none 0 0, .int .i64 0], .int .i64 1])) (World.put6 u (w.heap.size + 1) false none 0 0 0 false none 0 0 0) :=
  h.out (zs := []) (us := []) (by decide) (by decide) (Lim.nil _ _ _) (Lim.nil _ _ _) rfl rfl hP
end
theorem near_third {d : Dy} (h : LogD d) : Third (npX d.V) (npY d.V) := by
  obtain ⟨t1, t2, _⟩ := np_third h.2.2.1
  obtain ⟨b1, b2, _⟩ := np_blen h.2.2.1 h.2.2.2.1
  exact ⟨b1, b2, t2, t1⟩
theorem near_turn {d : Dy} (h : LogD d) : npX d.V * (if npN d.V then 7 else 5) ≤ npY d.V := by
  cases hn : npN d.V with
  | true =>
    have := np_neg h.2.2.1 hn
    show npX d.V * 7 ≤ _
    omega
  | false =>
    have := np_not h.2.2.1 hn
    show npX d.V * 5 ≤ _
    omega

set_option maxHeartbeats 4000000 in
set_option maxRecDepth 20000 in
theorem log_lg (g : Bool) (A : Option Addr) (n c : Nat) (xs : List Nat) (e0 s : Int) (w : World) (hA : Lim w A n c xs) (hn : n ≤ 4294967296) (hT : Tab w) (hs1 : -9223372036854775808 ≤ s) (hs2 : s ≤ 9223372036854775807) :
    Calls Tryd.prog 5 #[.agg #[.bool g, .slice A n c, .int .i64 e0], .int .i64 s] w (ITold w (LogP g (val xs) e0 s)) := by
  have k0 := HoldL3.start hT g A n c e0
  have H1 := Lib.hid (near_l g A n c xs e0 _ (hA.below k0.all) hn k0.tab)
  have K0 := Lib.hid k0
  have Hs : Hid (-9223372036854775808 ≤ s ∧ s ≤ 9223372036854775807) := ⟨hs1, hs2⟩
  obtain ⟨V, hV⟩ : ∃ V, val xs = V := ⟨_, rfl⟩
  rw [hV] at H1 ⊢
  clear hA hT k0 hV
  go_enter Tryd.func5, Tryd.ntmps5
  go_wp2_with fail
  refine H1.out.mono ?_
  rintro e w1 ⟨A1, m1, c1, zs, A2, m2, c2, us, neg, E, ok, rfl, hm1, hm2, hl1, hl2, hb1, hb2, hB1, hq⟩
  have k1 := K0.out.below hB1
  have zf := k1.1.fz
  have u0 := k1.1.x0
  have u1 := k1.1.x1
  have u2 := k1.1.x2
  have u3 := k1.1.x3
  have u4 := k1.1.x4
  have u5 := k1.1.x5
  rcases hq with ⟨d, hd1, hd2, rfl, hneg, hEE, hX, hY⟩ | ⟨hno, rfl, rfl, rfl, rfl, rfl⟩
  case inr =>
    have Hfin := Lib.hid (k1.no (P := LogP g V e0 s) (Or.inr ⟨fun h => hno h.1, rfl, rfl, rfl⟩))
    clear H1 K0 Hs hl1 hl2 hb1 hb2 hB1 hno k1 hs1 hs2
    go_wp2
    exact bodyPost_ret (v := .tuple #[.agg #[.bool false, .slice none 0 0, .int .i64 0, .bool false, .slice none 0 0, .int .i64 0], .int .i64 1]) (by simp [results, Tryd.results5, go_sem, u0, u1, u2, u3, u4, u5]) rfl Hfin.out
  case inl =>
    have hx := logd_exp hd2
    have h3 := near_third hd2
    have h5 := near_turn hd2
    rw [← hX, ← hY] at h3 h5
    rw [← hneg] at h5
    have H2 := Lib.hid (sum_l E A1 m1 c1 zs A2 m2 c2 us neg s w1 hl1 hl2 hm1 hm2 k1.tab (by omega) (by omega) hs1 hs2 h3)
    have HT5 := Lib.hid h5
    have HD : Hid (mk g V e0 = some d ∧ LogD d ∧ neg = npN d.V ∧ E = d.e + npE d.V ∧ val zs = npX d.V ∧ val us = npY d.V) := ⟨hd1, hd2, hneg, hEE, hX, hY⟩
    have hE1 : -1048579 ≤ E := by omega
    have hE2 : E ≤ 1048579 := by omega
    have HL : Hid (Lim w1 A1 m1 c1 zs ∧ Lim w1 A2 m2 c2 us) := ⟨hl1, hl2⟩
    replace K0 := Lib.hid k1
    clear H1 hl1 hl2 hb1 hb2 hB1 hd1 hd2 hneg hEE hX hY hx h3 h5 k1 hs1 hs2
    go_wp2_with fail
    refine H2.out.mono ?_
    rintro e w2 ⟨g3, A3, m3, c3, ts, e3, g4, A4, m4, c4, vs, e4, r, rfl, hm3, hm4, hl3, hl4, hb3, hb4, hB2, hq⟩
    have a2 := below1 w2 (.cells #[.bool g3, .slice A3 m3 c3, .int .i64 e3, .bool g4, .slice A4 m4 c4, .int .i64 e4] 29)
    have k2 := (K0.out.below hB2).below a2
    have i2 := Ib.new w2 g3 A3 m3 c3 e3 g4 A4 m4 c4 e4
    have y0 := i2.x0
    have y1 := i2.x1
    have y2 := i2.x2
    have y3 := i2.x3
    have y4 := i2.x4
    have y5 := i2.x5
    clear zf u0 u1 u2 u3 u4 u5
    have zf := k2.1.fz
    have u0 := k2.1.x0
    have u1 := k2.1.x1
    have u2 := k2.1.x2
    have u3 := k2.1.x3
    have u4 := k2.1.x4
    have u5 := k2.1.x5
    rcases hq with ⟨hsc, rfl, L0, H0, hS, hu3, hu4⟩ | ⟨hsc, rfl, rfl, rfl⟩
    case inr =>
      have Hfin := Lib.hid (k2.out (P := LogP g V e0 s) (g1 := g3) (e1 := e3) (g2 := g4) (e2 := e4) (r := 1) hm3 hm4 (hl3.below a2) (hl4.below a2) hb3 hb4 (Or.inr ⟨fun h => hsc h.2, rfl, rfl, rfl⟩))
      clear H2 K0 Hs HT5 HD HL hl3 hl4 hb3 hb4 hB2 a2 k2 i2 hsc
      go_wp2
      exact bodyPost_ret (v := .tuple #[.agg #[.bool g3, .slice A3 0 c3, .int .i64 e3, .bool g4, .slice A4 0 c4, .int .i64 e4], .int .i64 1]) (by simp [results, Tryd.results5, go_sem, u0, u1, u2, u3, u4, u5]) rfl Hfin.out
    case inl =>
      obtain ⟨k, rfl⟩ := Int.eq_ofNat_of_zero_le (show 0 ≤ s by omega)
      rw [Int.toNat_natCast] at hS hu3 hu4
      have H4 := Lib.hid (atturn_l A1 m1 c1 zs A2 m2 c2 us neg (k : Int) _ ((HL.out.1.below hB2).below a2) ((HL.out.2.below hB2).below a2) hm1 hm2 hsc.1 hsc.2 HT5.out)
      have HS : Hid (SumV E (val zs) (val us) neg k L0 H0 ∧ Un k L0 ⟨g3, val ts, e3⟩ ∧ Un k H0 ⟨g4, val vs, e4⟩ ∧ Bare ts ∧ Bare vs ∧ (8 ≤ (k : Int) ∧ (k : Int) ≤ 9000)) := ⟨hS, hu3, hu4, hb3, hb4, hsc⟩
      have HLs := Lib.hid (And.intro (hl3.below a2) (hl4.below a2))
      have HI := Lib.hid i2
      replace K0 := Lib.hid k2
      clear H2 HT5 HL hl3 hl4 hb3 hb4 hB2 a2 k2 i2 hsc hS hu3 hu4
      go_wp2_with fail
      refine H4.out.mono ?_
      rintro e w3 ⟨v, rfl, hB3, hturn⟩
      have k3 := K0.out.below hB3
      have i3 := HI.out.below hB3
      have l3 := HLs.out.1.below hB3
      have l4 := HLs.out.2.below hB3
      clear zf u0 u1 u2 u3 u4 u5 y0 y1 y2 y3 y4 y5
      have y0 := i3.x0
      have y1 := i3.x1
      have y2 := i3.x2
      have y3 := i3.x3
      have y4 := i3.x4
      have y5 := i3.x5
      have zf := k3.1.fz
      have u0 := k3.1.x0
      have u1 := k3.1.x1
      have u2 := k3.1.x2
      have u3 := k3.1.x3
      have u4 := k3.1.x4
      have u5 := k3.1.x5
      cases v with
      | false =>
        have Hfin := Lib.hid (k3.out (P := LogP g V e0 (k : Int)) (g1 := g3) (e1 := e3) (g2 := g4) (e2 := e4) (r := 0) hm3 hm4 l3 l4 HS.out.2.2.2.1 HS.out.2.2.2.2.1
          (Or.inl ⟨d, L0, H0, HD.out.1, HD.out.2.1, HS.out.2.2.2.2.2, rfl, ⟨L0, H0, by rw [Int.toNat_natCast, ← HD.out.2.2.1, ← HD.out.2.2.2.1, ← HD.out.2.2.2.2.1, ← HD.out.2.2.2.2.2]; exact HS.out.1, Or.inl ⟨rfl, rfl⟩, fun _ _ _ => ⟨rfl, rfl⟩⟩, HS.out.2.1, HS.out.2.2.1⟩))
        clear H4 K0 Hs HD HS HLs HI hB3 hturn k3 i3 l3 l4
        go_wp2
        exact bodyPost_ret (v := .tuple #[.agg #[.bool g3, .slice A3 m3 c3, .int .i64 e3, .bool g4, .slice A4 m4 c4, .int .i64 e4], .int .i64 0]) (by simp [results, Tryd.results5, go_sem, u0, u1, u2, u3, u4, u5]) rfl Hfin.out
      | true =>
        have H5 := Lib.hid (held_lg E neg k g3 A3 m3 c3 ts e3 g4 A4 m4 c4 vs e4 L0 H0 w3 l3 l4 HS.out.2.2.2.1 HS.out.2.2.2.2.1 hm3 hm4 k3.tab hE1 hE2 (by have := HS.out.2.2.2.2.2; omega) (by have := HS.out.2.2.2.2.2; omega) HS.out.2.1 HS.out.2.2.1)
        have HTn : Hid (¬ (val zs = 0 ∧ val us = 2 ∧ (k : Int) = 64)) := fun h => by
          have := hturn h.1 h.2.1 h.2.2
          cases this
        replace K0 := Lib.hid k3
        clear H4 HLs HI hB3 hturn k3 i3 l3 l4
        go_wp2_with fail
        refine H5.out.mono ?_
        rintro e w4 ⟨g5, A5, m5, c5, ps, e5, g6, A6, m6, c6, qs, e6, rfl, hm5, hm6, hl5, hl6, hb5, hb6, hB4, L, H, hH, hu5, hu6⟩
        have k4 := K0.out.below hB4
        have Hfin := Lib.hid (k4.out (P := LogP g V e0 (k : Int)) (g1 := g5) (e1 := e5) (g2 := g6) (e2 := e6) (r := 0) hm5 hm6 hl5 hl6 hb5 hb6
          (Or.inl ⟨d, L, H, HD.out.1, HD.out.2.1, HS.out.2.2.2.2.2, rfl, ⟨L0, H0, by rw [Int.toNat_natCast, ← HD.out.2.2.1, ← HD.out.2.2.2.1, ← HD.out.2.2.2.2.1, ← HD.out.2.2.2.2.2]; exact HS.out.1, by rw [Int.toNat_natCast, ← HD.out.2.2.1, ← HD.out.2.2.2.1]; exact hH, fun h1 h2 h3 => absurd ⟨by rw [HD.out.2.2.2.2.1]; exact h1, by rw [HD.out.2.2.2.2.2]; exact h2, by rw [Int.toNat_natCast] at h3; omega⟩ HTn.out⟩, hu5, hu6⟩))
        clear zf u0 u1 u2 u3 u4 u5 y0 y1 y2 y3 y4 y5
        have zf := k4.1.fz
        have u0 := k4.1.x0
        have u1 := k4.1.x1
        have u2 := k4.1.x2
        have u3 := k4.1.x3
        have u4 := k4.1.x4
        have u5 := k4.1.x5
        clear H5 K0 Hs HD HS hB4 HTn k4 hl5 hl6 hb5 hb6 hH hu5 hu6
        go_wp2
        exact bodyPost_ret (v := .tuple #[.agg #[.bool g5, .slice A5 m5 c5, .int .i64 e5, .bool g6, .slice A6 m6 c6, .int .i64 e6], .int .i64 0]) (by simp [results, Tryd.results5, go_sem, u0, u1, u2, u3, u4, u5]) rfl Hfin.out
end Go.Proofs.YtijhdlkfihjbiaaDoor
