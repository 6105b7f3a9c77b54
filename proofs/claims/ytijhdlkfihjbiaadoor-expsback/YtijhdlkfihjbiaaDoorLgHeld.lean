/- The walk of logs.held: no end beyond what the other way tells of the turn (written by law_lheld.py). -/
import Derived.Test.YtijhdlkfihjbiaaDoorLgSum
namespace Go.Proofs.YtijhdlkfihjbiaaDoor
open Go.RowKit

/-- The upper end laid into an interval's block. -/
abbrev World.putH (w : World) (b : Nat) (g : Bool) (A : Option Addr) (n c : Nat) (e : Int) : World :=
  ((w.setCell ⟨b, 3, none⟩ (.bool g)).setCell ⟨b, 4, none⟩ (.slice A n c)).setCell ⟨b, 5, none⟩ (.int .i64 e)
theorem putH_heap (w : World) (b : Nat) (g : Bool) (A : Option Addr) (n c : Nat) (e : Int) (k : Nat) (hk : k ≠ b) : (World.putH w b g A n c e).heap[k]? = w.heap[k]? := by
  unfold World.putH
  rw [Below.heap_setCell _ _ _ _ hk, Below.heap_setCell _ _ _ _ hk, Below.heap_setCell _ _ _ _ hk]
theorem putH_size (w : World) (b : Nat) (g : Bool) (A : Option Addr) (n c : Nat) (e : Int) : (World.putH w b g A n c e).heap.size = w.heap.size := by
  simp [World.putH, World.setCell]
theorem putH_cell (w : World) (b : Nat) (g : Bool) (A : Option Addr) (n c : Nat) (e : Int) (p : Addr) (hp : p.block ≠ b) : (World.putH w b g A n c e).cell? p = w.cell? p :=
  World.cell?_of_block (w := w) (putH_heap w b g A n c e p.block hp)
theorem below_putH {B : Nat} {a w : World} (h : Below B a w) {b : Nat} (hb : B ≤ b) (g : Bool) (A : Option Addr) (n c : Nat) (e : Int) : Below B a (World.putH w b g A n c e) :=
  ((h.setCell (p := ⟨b, 3, none⟩) hb _).setCell (p := ⟨b, 4, none⟩) hb _).setCell (p := ⟨b, 5, none⟩) hb _
section
variable {w : World} {b : Nat} {g1 : Bool} {A1 : Option Addr} {n1 c1 : Nat} {e1 : Int} {g2 : Bool} {A2 : Option Addr} {n2 c2 : Nat} {e2 : Int}
theorem Ib.putL (h : Ib w b g1 A1 n1 c1 e1 g2 A2 n2 c2 e2) (g' : Bool) (A' : Option Addr) (n' c' : Nat) (e' : Int) : Ib (World.put w b g' A' n' c' e') b g' A' n' c' e' g2 A2 n2 c2 e2 := by
  unfold Ib at h ⊢
  unfold World.put
  simp [World.setCell, Array.getElem?_modify, h]
theorem Ib.putU (h : Ib w b g1 A1 n1 c1 e1 g2 A2 n2 c2 e2) (g' : Bool) (A' : Option Addr) (n' c' : Nat) (e' : Int) : Ib (World.putH w b g' A' n' c' e') b g1 A1 n1 c1 e1 g' A' n' c' e' := by
  unfold Ib at h ⊢
  unfold World.putH
  simp [World.setCell, Array.getElem?_modify, h]
theorem Ib.otherU (h : Ib w b g1 A1 n1 c1 e1 g2 A2 n2 c2 e2) {b' : Nat} (hb : b ≠ b') (g' : Bool) (A' : Option Addr) (n' c' : Nat) (e' : Int) : Ib (World.putH w b' g' A' n' c' e') b g1 A1 n1 c1 e1 g2 A2 n2 c2 e2 := by
  unfold Ib; rw [putH_heap _ _ _ _ _ _ _ _ hb]; exact h
theorem Ib.limL (h : Ib w b g1 A1 n1 c1 e1 g2 A2 n2 c2 e2) {A : Option Addr} {n c : Nat} {xs : List Nat} (hA : Lim w A n c xs) (g' : Bool) (A' : Option Addr) (n' c' : Nat) (e' : Int) : Lim (World.put w b g' A' n' c' e') A n c xs :=
  ⟨hA.1, hA.2.1, hA.2.2.1, fun hn => by
    obtain ⟨k, o, ek, hk, hc⟩ := hA.at_ hn
    have hne : k ≠ b := by
      rintro rfl
      have := h.not (hc 0 hn)
      cases this
    exact ⟨k, o, ek, by rw [put_size]; exact hk, fun j hj => by rw [put_cell _ _ _ _ _ _ _ _ hne]; exact hc j hj⟩⟩
theorem Ib.limU (h : Ib w b g1 A1 n1 c1 e1 g2 A2 n2 c2 e2) {A : Option Addr} {n c : Nat} {xs : List Nat} (hA : Lim w A n c xs) (g' : Bool) (A' : Option Addr) (n' c' : Nat) (e' : Int) : Lim (World.putH w b g' A' n' c' e') A n c xs :=
  ⟨hA.1, hA.2.1, hA.2.2.1, fun hn => by
    obtain ⟨k, o, ek, hk, hc⟩ := hA.at_ hn
    have hne : k ≠ b := by
      rintro rfl
      have := h.not (hc 0 hn)
      cases this
    exact ⟨k, o, ek, by rw [putH_size]; exact hk, fun j hj => by rw [putH_cell _ _ _ _ _ _ _ _ hne]; exact hc j hj⟩⟩
end

/-- An interval alone. -/
def JTold (w : World) (P : Dy → Dy → Prop) (e : Ending) (w' : World) : Prop :=
  ∃ g1 A1 m1 c1 zs e1 g2 A2 m2 c2 us e2, e = .returned (.agg #[.bool g1, .slice A1 m1 c1, .int .i64 e1, .bool g2, .slice A2 m2 c2, .int .i64 e2]) ∧ m1 ≤ 300 ∧ m2 ≤ 300 ∧ Lim w' A1 m1 c1 zs ∧ Lim w' A2 m2 c2 us ∧ Bare zs ∧ Bare us ∧ Below w.heap.size w w' ∧ P ⟨g1, val zs, e1⟩ ⟨g2, val us, e2⟩
/-- The interval that came in, the result's block. -/
def HoldJ (w : World) (g1 : Bool) (A1 : Option Addr) (m1 c1 : Nat) (e1 : Int) (g2 : Bool) (A2 : Option Addr) (m2 c2 : Nat) (e2 : Int) (u : World) : Prop :=
  Ib u w.heap.size g1 A1 m1 c1 e1 g2 A2 m2 c2 e2 ∧ Ib u (w.heap.size + 1) false none 0 0 0 false none 0 0 0 ∧ Tab u ∧ Below w.heap.size w u
section
variable {w u u' : World} {g1 : Bool} {A1 : Option Addr} {m1 c1 : Nat} {e1 : Int} {g2 : Bool} {A2 : Option Addr} {m2 c2 : Nat} {e2 : Int}
theorem HoldJ.below (h : HoldJ w g1 A1 m1 c1 e1 g2 A2 m2 c2 e2 u) (hb : Below u.heap.size u u') : HoldJ w g1 A1 m1 c1 e1 g2 A2 m2 c2 e2 u' :=
  ⟨h.1.below hb, h.2.1.below hb, h.2.2.1.below hb, h.2.2.2.trans (hb.mono h.2.2.2.size)⟩
theorem HoldJ.tab (h : HoldJ w g1 A1 m1 c1 e1 g2 A2 m2 c2 e2 u) : Tab u := h.2.2.1
theorem HoldJ.all (h : HoldJ w g1 A1 m1 c1 e1 g2 A2 m2 c2 e2 u) : Below w.heap.size w u := h.2.2.2
theorem HoldJ.start (hT : Tab w) : HoldJ w g1 A1 m1 c1 e1 g2 A2 m2 c2 e2 ((w.alloc (.cells #[.bool g1, .slice A1 m1 c1, .int .i64 e1, .bool g2, .slice A2 m2 c2, .int .i64 e2] 29)).alloc (.cells #[.bool false, .slice none 0 0, .int .i64 0, .bool false, .slice none 0 0, .int .i64 0] 29)) := by
  have a := below1 w (.cells #[.bool g1, .slice A1 m1 c1, .int .i64 e1, .bool g2, .slice A2 m2 c2, .int .i64 e2] 29)
  have b := below1 (w.alloc (.cells #[.bool g1, .slice A1 m1 c1, .int .i64 e1, .bool g2, .slice A2 m2 c2, .int .i64 e2] 29)) (.cells #[.bool false, .slice none 0 0, .int .i64 0, .bool false, .slice none 0 0, .int .i64 0] 29)
  have n := Ib.new (w.alloc (.cells #[.bool g1, .slice A1 m1 c1, .int .i64 e1, .bool g2, .slice A2 m2 c2, .int .i64 e2] 29)) false none 0 0 0 false none 0 0 0
  rw [World.size_alloc] at n
  exact ⟨(Ib.new w g1 A1 m1 c1 e1 g2 A2 m2 c2 e2).below b, n, (hT.below a).below b, a.trans (b.mono a.size)⟩
/-- The result. -/
theorem jout {P : Dy → Dy → Prop} {zs us : List Nat} (h : Ib u (w.heap.size + 1) false none 0 0 0 false none 0 0 0) (hb : Below w.heap.size w u) (hm1 : m1 ≤ 300) (hm2 : m2 ≤ 300) (h1 : Lim u A1 m1 c1 zs) (h2 : Lim u A2 m2 c2 us) (b1 : Bare zs) (b2 : Bare us) (hP : P ⟨g1, val zs, e1⟩ ⟨g2, val us, e2⟩) :
    JTold w P (.returned (.agg #[.bool g1, .slice A1 m1 c1, .int .i64 e1, .bool g2, .slice A2 m2 c2, .int .i64 e2])) (World.put6 u (w.heap.size + 1) g1 A1 m1 c1 e1 g2 A2 m2 c2 e2) :=
  ⟨g1, A1, m1, c1, zs, e1, g2, A2, m2, c2, us, e2, rfl, hm1, hm2, h.lim h1 _ _ _ _ _ _ _ _ _ _, h.lim h2 _ _ _ _ _ _ _ _ _ _, b1, b2, below_put6 hb (Nat.le_succ _) _ _ _ _ _ _ _ _ _ _, hP⟩
end

/-- What held makes of an interval's ends. -/
def HeldV (E : Int) (neg : Bool) (s : Nat) (L0 H0 L H : Int) : Prop :=
  (L = L0 ∧ H = H0) ∨ (neg = true ∧ H = H0 ∧ L0 < L ∧ ∃ H', SumV (E - 1) 1 5 false s L H') ∨ (neg = false ∧ L = L0 ∧ H < H0 ∧ ∃ L', SumV (E + 1) 1 7 true s L' H)

set_option maxHeartbeats 4000000 in
set_option maxRecDepth 20000 in
theorem held_true (E : Int) (k : Nat) (g1 : Bool) (A1 : Option Addr) (m1 c1 : Nat) (zs : List Nat) (e1 : Int) (g2 : Bool) (A2 : Option Addr) (m2 c2 : Nat) (us : List Nat) (e2 : Int) (L0 H0 : Int) (w : World) (h1 : Lim w A1 m1 c1 zs) (h2 : Lim w A2 m2 c2 us) (b1 : Bare zs) (b2 : Bare us) (hm1 : m1 ≤ 300) (hm2 : m2 ≤ 300) (hT : Tab w) (hE1 : -1048579 ≤ E) (hE2 : E ≤ 1048579) (hk8 : 8 ≤ k) (hk9 : k ≤ 9000) (u1 : Un k L0 ⟨g1, val zs, e1⟩) (u2 : Un k H0 ⟨g2, val us, e2⟩) :
    Calls Tryd.prog 15 #[.agg #[.bool g1, .slice A1 m1 c1, .int .i64 e1, .bool g2, .slice A2 m2 c2, .int .i64 e2], .int .i64 E, .bool true, .int .i64 (k : Int)] w (JTold w fun d1 d2 => ∃ L H, HeldV E true k L0 H0 L H ∧ Un k L d1 ∧ Un k H d2) := by
  have k0 : HoldJ w g1 A1 m1 c1 e1 g2 A2 m2 c2 e2 _ := HoldJ.start hT
  have HO := Lib.hid (of_any 1 (by decide) ((w.alloc (.cells #[.bool g1, .slice A1 m1 c1, .int .i64 e1, .bool g2, .slice A2 m2 c2, .int .i64 e2] 29)).alloc (.cells #[.bool false, .slice none 0 0, .int .i64 0, .bool false, .slice none 0 0, .int .i64 0] 29)))
  have HLs := Lib.hid (And.intro (h1.below k0.all) (h2.below k0.all))
  have HBs : Hid (Bare zs ∧ Bare us ∧ Un k L0 ⟨g1, val zs, e1⟩ ∧ Un k H0 ⟨g2, val us, e2⟩) := ⟨b1, b2, u1, u2⟩
  have K0 := Lib.hid k0
  obtain ⟨F, hF⟩ : ∃ F : Int, E - 1 = F := ⟨_, rfl⟩
  have hF1 : -1048580 ≤ F := by omega
  have hF2 : F ≤ 1048580 := by omega
  have HFF := Lib.hid hF
  have hk9' : (k : Int) ≤ 9000 := by omega
  clear hT k0 h1 h2 b1 b2 u1 u2
  go_enter Tryd.func15, Tryd.ntmps15
  go_wp2_with fail
  refine HO.out.mono ?_
  rintro e w1 ⟨A3, m3, c3, ts, rfl, hm3, hl3, hb3, hv3, hB1⟩
  replace K0 := Lib.hid (K0.out.below hB1)
  replace HLs := Lib.hid (And.intro (HLs.out.1.below hB1) (HLs.out.2.below hB1))
  have HO2 := Lib.hid (of_any 5 (by decide) w1)
  have HN : Hid (Lim w1 A3 m3 c3 ts ∧ val ts = 1) := ⟨hl3, hv3⟩
  clear hl3 hb3 hv3 hB1 HO
  go_wp2_with fail
  refine HO2.out.mono ?_
  rintro e w2 ⟨A4, m4, c4, vs, rfl, hm4, hl4, hb4, hv4, hB2⟩
  replace K0 := Lib.hid (K0.out.below hB2)
  replace HLs := Lib.hid (And.intro (HLs.out.1.below hB2) (HLs.out.2.below hB2))
  have h5 := sum_l F A3 m3 c3 ts A4 m4 c4 vs false (k : Int) w2 (HN.out.1.below hB2) hl4 (by omega) (by omega) K0.out.tab hF1 hF2 (by omega) (by omega) (by rw [HN.out.2, hv4]; exact ⟨by decide, by decide, by decide, by decide⟩)
  rw [HN.out.2, hv4] at h5
  have H5 := Lib.hid h5
  clear hl4 hb4 hv4 hB2 HO2 HN h5
  go_wp2_with fail
  refine H5.out.mono ?_
  rintro e w3 ⟨g5, A5, m5, c5, ps, e5, g6, A6, m6, c6, qs, e6, r, rfl, hm5, hm6, hl5, hl6, hb5, hb6, hB3, hq⟩
  obtain ⟨rfl, L', H', hS, hu5, hu6⟩ : r = 0 ∧ ∃ L H : Int, SumV F 1 5 false k L H ∧ Un k L ⟨g5, val ps, e5⟩ ∧ Un k H ⟨g6, val qs, e6⟩ := by
    rcases hq with ⟨_, h, h'⟩ | ⟨h, _⟩
    · rw [Int.toNat_natCast] at h'
      exact ⟨h, h'⟩
    · exact absurd ⟨by omega, by omega⟩ h
  have a3 := below1 w3 (.cells #[.bool g5, .slice A5 m5 c5, .int .i64 e5, .bool g6, .slice A6 m6 c6, .int .i64 e6] 29)
  replace K0 := Lib.hid ((K0.out.below hB3).below a3)
  replace HLs := Lib.hid (And.intro ((HLs.out.1.below hB3).below a3) ((HLs.out.2.below hB3).below a3))
  have HI5 := Lib.hid (Ib.new w3 g5 A5 m5 c5 e5 g6 A6 m6 c6 e6)
  have HL5 := Lib.hid (And.intro (hl5.below a3) (hl6.below a3))
  obtain ⟨v, hv⟩ : ∃ v, cmpI L0 L' = v := ⟨_, rfl⟩
  have H6 := Lib.hid (dcmp_l v g1 A1 m1 c1 zs e1 g5 A5 m5 c5 ps e5 _ HLs.out.1 HL5.out.1 (by omega) (by omega) K0.out.tab (by show _ = _; rw [← hv]; exact un_cmp HBs.out.2.2.1 hu5))
  have HS5 : Hid (SumV F 1 5 false k L' H' ∧ Un k L' ⟨g5, val ps, e5⟩ ∧ Un k H' ⟨g6, val qs, e6⟩ ∧ Bare ps ∧ Bare qs) := ⟨hS, hu5, hu6, hb5, hb6⟩
  have x0 := K0.out.1.x0
  have x1 := K0.out.1.x1
  have x2 := K0.out.1.x2
  have x3 := K0.out.1.x3
  have x4 := K0.out.1.x4
  have x5 := K0.out.1.x5
  have y0 := HI5.out.x0
  have y1 := HI5.out.x1
  have y2 := HI5.out.x2
  have y3 := HI5.out.x3
  have y4 := HI5.out.x4
  have y5 := HI5.out.x5
  clear H5 hl5 hl6 hb5 hb6 hB3 hq a3 hS hu5 hu6
  go_wp2_with fail
  refine H6.out.mono ?_
  rintro e w4 ⟨rfl, hB4⟩
  replace K0 := Lib.hid (K0.out.below hB4)
  replace HLs := Lib.hid (And.intro (HLs.out.1.below hB4) (HLs.out.2.below hB4))
  replace HL5 := Lib.hid (And.intro (HL5.out.1.below hB4) (HL5.out.2.below hB4))
  replace HI5 := Lib.hid (HI5.out.below hB4)
  clear x0 x1 x2 x3 x4 x5 y0 y1 y2 y3 y4 y5 hB4 H6
  have x0 := K0.out.1.x0
  have x1 := K0.out.1.x1
  have x2 := K0.out.1.x2
  have x3 := K0.out.1.x3
  have x4 := K0.out.1.x4
  have x5 := K0.out.1.x5
  have xf := K0.out.1.fz
  have y0 := HI5.out.x0
  have y1 := HI5.out.x1
  have y2 := HI5.out.x2
  have y3 := HI5.out.x3
  have y4 := HI5.out.x4
  have y5 := HI5.out.x5
  have zf := K0.out.2.1.fz
  by_cases hc : v < 0
  · have c0 : decide (v < (0 : Int)) = true := decide_eq_true hc
    have hlt : L0 < L' := by
      rw [← hv] at hc
      rcases Int.lt_trichotomy L0 L' with h | h | h
      · exact h
      · rw [cmpI_eq h] at hc; exact absurd hc (by decide)
      · rw [cmpI_gt h] at hc; exact absurd hc (by decide)
    have j := K0.out.1.putL g5 A5 m5 c5 e5
    have jr := K0.out.2.1.other (b' := w.heap.size) (by omega) g5 A5 m5 c5 e5
    have jb := below_put K0.out.all (Nat.le_refl w.heap.size) g5 A5 m5 c5 e5
    have Hfin := Lib.hid (jout (P := fun d1 d2 => ∃ L H, HeldV E true k L0 H0 L H ∧ Un k L d1 ∧ Un k H d2) (g1 := g5) (e1 := e5) (g2 := g2) (e2 := e2) jr jb (by omega) (by omega)
      (K0.out.1.limL HL5.out.1 g5 A5 m5 c5 e5) (K0.out.1.limL HLs.out.2 g5 A5 m5 c5 e5) HS5.out.2.2.2.1 HBs.out.2.1
      ⟨L', H0, Or.inr (Or.inl ⟨rfl, rfl, hlt, H', by rw [HFF.out]; exact HS5.out.1⟩), HS5.out.2.1, HBs.out.2.2.2⟩)
    have z0 := jr.x0
    have z1 := jr.x1
    have z2 := jr.x2
    have z3 := jr.x3
    have z4 := jr.x4
    have z5 := jr.x5
    have t0 := j.x0
    have t1 := j.x1
    have t2 := j.x2
    have t3 := j.x3
    have t4 := j.x4
    have t5 := j.x5
    have zg := jr.fz
    clear hv hc hlt j jr jb K0 HLs HL5 HI5 HBs HS5 HFF hF
    go_wp2
    exact bodyPost_ret (v := .agg #[.bool g5, .slice A5 m5 c5, .int .i64 e5, .bool g2, .slice A2 m2 c2, .int .i64 e2]) (by simp [results, Tryd.results15, go_sem, z0, z1, z2, z3, z4, z5]) rfl Hfin.out
  · have c0 : decide (v < (0 : Int)) = false := decide_eq_false hc
    have jr := K0.out.2.1
    have Hfin := Lib.hid (jout (P := fun d1 d2 => ∃ L H, HeldV E true k L0 H0 L H ∧ Un k L d1 ∧ Un k H d2) (g1 := g1) (e1 := e1) (g2 := g2) (e2 := e2) jr K0.out.all (by omega) (by omega)
      HLs.out.1 HLs.out.2 HBs.out.1 HBs.out.2.1 ⟨L0, H0, Or.inl ⟨rfl, rfl⟩, HBs.out.2.2.1, HBs.out.2.2.2⟩)
    have z0 := jr.x0
    have z1 := jr.x1
    have z2 := jr.x2
    have z3 := jr.x3
    have z4 := jr.x4
    have z5 := jr.x5
    clear hv hc jr K0 HLs HL5 HI5 HBs HS5 HFF hF
    go_wp2
    exact bodyPost_ret (v := .agg #[.bool g1, .slice A1 m1 c1, .int .i64 e1, .bool g2, .slice A2 m2 c2, .int .i64 e2]) (by simp [results, Tryd.results15, go_sem, z0, z1, z2, z3, z4, z5]) rfl Hfin.out

set_option maxHeartbeats 4000000 in
set_option maxRecDepth 20000 in
theorem held_false (E : Int) (k : Nat) (g1 : Bool) (A1 : Option Addr) (m1 c1 : Nat) (zs : List Nat) (e1 : Int) (g2 : Bool) (A2 : Option Addr) (m2 c2 : Nat) (us : List Nat) (e2 : Int) (L0 H0 : Int) (w : World) (h1 : Lim w A1 m1 c1 zs) (h2 : Lim w A2 m2 c2 us) (b1 : Bare zs) (b2 : Bare us) (hm1 : m1 ≤ 300) (hm2 : m2 ≤ 300) (hT : Tab w) (hE1 : -1048579 ≤ E) (hE2 : E ≤ 1048579) (hk8 : 8 ≤ k) (hk9 : k ≤ 9000) (u1 : Un k L0 ⟨g1, val zs, e1⟩) (u2 : Un k H0 ⟨g2, val us, e2⟩) :
    Calls Tryd.prog 15 #[.agg #[.bool g1, .slice A1 m1 c1, .int .i64 e1, .bool g2, .slice A2 m2 c2, .int .i64 e2], .int .i64 E, .bool false, .int .i64 (k : Int)] w (JTold w fun d1 d2 => ∃ L H, HeldV E false k L0 H0 L H ∧ Un k L d1 ∧ Un k H d2) := by
  have k0 : HoldJ w g1 A1 m1 c1 e1 g2 A2 m2 c2 e2 _ := HoldJ.start hT
  have HO := Lib.hid (of_any 1 (by decide) ((w.alloc (.cells #[.bool g1, .slice A1 m1 c1, .int .i64 e1, .bool g2, .slice A2 m2 c2, .int .i64 e2] 29)).alloc (.cells #[.bool false, .slice none 0 0, .int .i64 0, .bool false, .slice none 0 0, .int .i64 0] 29)))
  have HLs := Lib.hid (And.intro (h1.below k0.all) (h2.below k0.all))
  have HBs : Hid (Bare zs ∧ Bare us ∧ Un k L0 ⟨g1, val zs, e1⟩ ∧ Un k H0 ⟨g2, val us, e2⟩) := ⟨b1, b2, u1, u2⟩
  have K0 := Lib.hid k0
  obtain ⟨F, hF⟩ : ∃ F : Int, E + 1 = F := ⟨_, rfl⟩
  have hF1 : -1048580 ≤ F := by omega
  have hF2 : F ≤ 1048580 := by omega
  have HFF := Lib.hid hF
  have hk9' : (k : Int) ≤ 9000 := by omega
  clear hT k0 h1 h2 b1 b2 u1 u2
  go_enter Tryd.func15, Tryd.ntmps15
  go_wp2_with fail
  refine HO.out.mono ?_
  rintro e w1 ⟨A3, m3, c3, ts, rfl, hm3, hl3, hb3, hv3, hB1⟩
  replace K0 := Lib.hid (K0.out.below hB1)
  replace HLs := Lib.hid (And.intro (HLs.out.1.below hB1) (HLs.out.2.below hB1))
  have HO2 := Lib.hid (of_any 7 (by decide) w1)
  have HN : Hid (Lim w1 A3 m3 c3 ts ∧ val ts = 1) := ⟨hl3, hv3⟩
  clear hl3 hb3 hv3 hB1 HO
  go_wp2_with fail
  refine HO2.out.mono ?_
  rintro e w2 ⟨A4, m4, c4, vs, rfl, hm4, hl4, hb4, hv4, hB2⟩
  replace K0 := Lib.hid (K0.out.below hB2)
  replace HLs := Lib.hid (And.intro (HLs.out.1.below hB2) (HLs.out.2.below hB2))
  have h5 := sum_l F A3 m3 c3 ts A4 m4 c4 vs true (k : Int) w2 (HN.out.1.below hB2) hl4 (by omega) (by omega) K0.out.tab hF1 hF2 (by omega) (by omega) (by rw [HN.out.2, hv4]; exact ⟨by decide, by decide, by decide, by decide⟩)
  rw [HN.out.2, hv4] at h5
  have H5 := Lib.hid h5
  clear hl4 hb4 hv4 hB2 HO2 HN h5
  go_wp2_with fail
  refine H5.out.mono ?_
  rintro e w3 ⟨g5, A5, m5, c5, ps, e5, g6, A6, m6, c6, qs, e6, r, rfl, hm5, hm6, hl5, hl6, hb5, hb6, hB3, hq⟩
  obtain ⟨rfl, L', H', hS, hu5, hu6⟩ : r = 0 ∧ ∃ L H : Int, SumV F 1 7 true k L H ∧ Un k L ⟨g5, val ps, e5⟩ ∧ Un k H ⟨g6, val qs, e6⟩ := by
    rcases hq with ⟨_, h, h'⟩ | ⟨h, _⟩
    · rw [Int.toNat_natCast] at h'
      exact ⟨h, h'⟩
    · exact absurd ⟨by omega, by omega⟩ h
  have a3 := below1 w3 (.cells #[.bool g5, .slice A5 m5 c5, .int .i64 e5, .bool g6, .slice A6 m6 c6, .int .i64 e6] 29)
  replace K0 := Lib.hid ((K0.out.below hB3).below a3)
  replace HLs := Lib.hid (And.intro ((HLs.out.1.below hB3).below a3) ((HLs.out.2.below hB3).below a3))
  have HI5 := Lib.hid (Ib.new w3 g5 A5 m5 c5 e5 g6 A6 m6 c6 e6)
  have HL5 := Lib.hid (And.intro (hl5.below a3) (hl6.below a3))
  obtain ⟨v, hv⟩ : ∃ v, cmpI H0 H' = v := ⟨_, rfl⟩
  have H6 := Lib.hid (dcmp_l v g2 A2 m2 c2 us e2 g6 A6 m6 c6 qs e6 _ HLs.out.2 HL5.out.2 (by omega) (by omega) K0.out.tab (by show _ = _; rw [← hv]; exact un_cmp HBs.out.2.2.2 hu6))
  have HS5 : Hid (SumV F 1 7 true k L' H' ∧ Un k L' ⟨g5, val ps, e5⟩ ∧ Un k H' ⟨g6, val qs, e6⟩ ∧ Bare ps ∧ Bare qs) := ⟨hS, hu5, hu6, hb5, hb6⟩
  have x0 := K0.out.1.x0
  have x1 := K0.out.1.x1
  have x2 := K0.out.1.x2
  have x3 := K0.out.1.x3
  have x4 := K0.out.1.x4
  have x5 := K0.out.1.x5
  have y0 := HI5.out.x0
  have y1 := HI5.out.x1
  have y2 := HI5.out.x2
  have y3 := HI5.out.x3
  have y4 := HI5.out.x4
  have y5 := HI5.out.x5
  clear H5 hl5 hl6 hb5 hb6 hB3 hq a3 hS hu5 hu6
  go_wp2_with fail
  refine H6.out.mono ?_
  rintro e w4 ⟨rfl, hB4⟩
  replace K0 := Lib.hid (K0.out.below hB4)
  replace HLs := Lib.hid (And.intro (HLs.out.1.below hB4) (HLs.out.2.below hB4))
  replace HL5 := Lib.hid (And.intro (HL5.out.1.below hB4) (HL5.out.2.below hB4))
  replace HI5 := Lib.hid (HI5.out.below hB4)
  clear x0 x1 x2 x3 x4 x5 y0 y1 y2 y3 y4 y5 hB4 H6
  have x0 := K0.out.1.x0
  have x1 := K0.out.1.x1
  have x2 := K0.out.1.x2
  have x3 := K0.out.1.x3
  have x4 := K0.out.1.x4
  have x5 := K0.out.1.x5
  have xf := K0.out.1.fz
  have y0 := HI5.out.x0
  have y1 := HI5.out.x1
  have y2 := HI5.out.x2
  have y3 := HI5.out.x3
  have y4 := HI5.out.x4
  have y5 := HI5.out.x5
  have zf := K0.out.2.1.fz
  by_cases hc : 0 < v
  · have c0 : decide ((0 : Int) < v) = true := decide_eq_true hc
    have hlt : H' < H0 := by
      rw [← hv] at hc
      rcases Int.lt_trichotomy H0 H' with h | h | h
      · rw [cmpI_lt h] at hc; exact absurd hc (by decide)
      · rw [cmpI_eq h] at hc; exact absurd hc (by decide)
      · exact h
    have j := K0.out.1.putU g6 A6 m6 c6 e6
    have jr := K0.out.2.1.otherU (b' := w.heap.size) (by omega) g6 A6 m6 c6 e6
    have jb := below_putH K0.out.all (Nat.le_refl w.heap.size) g6 A6 m6 c6 e6
    have Hfin := Lib.hid (jout (P := fun d1 d2 => ∃ L H, HeldV E false k L0 H0 L H ∧ Un k L d1 ∧ Un k H d2) (g1 := g1) (e1 := e1) (g2 := g6) (e2 := e6) jr jb (by omega) (by omega)
      (K0.out.1.limU HLs.out.1 g6 A6 m6 c6 e6) (K0.out.1.limU HL5.out.2 g6 A6 m6 c6 e6) HBs.out.1 HS5.out.2.2.2.2
      ⟨L0, H', Or.inr (Or.inr ⟨rfl, rfl, hlt, L', by rw [HFF.out]; exact HS5.out.1⟩), HBs.out.2.2.1, HS5.out.2.2.1⟩)
    have z0 := jr.x0
    have z1 := jr.x1
    have z2 := jr.x2
    have z3 := jr.x3
    have z4 := jr.x4
    have z5 := jr.x5
    have t0 := j.x0
    have t1 := j.x1
    have t2 := j.x2
    have t3 := j.x3
    have t4 := j.x4
    have t5 := j.x5
    have zg := jr.fz
    clear hv hc hlt j jr jb K0 HLs HL5 HI5 HBs HS5 HFF hF
    go_wp2
    exact bodyPost_ret (v := .agg #[.bool g1, .slice A1 m1 c1, .int .i64 e1, .bool g6, .slice A6 m6 c6, .int .i64 e6]) (by simp [results, Tryd.results15, go_sem, z0, z1, z2, z3, z4, z5]) rfl Hfin.out
  · have c0 : decide ((0 : Int) < v) = false := decide_eq_false hc
    have jr := K0.out.2.1
    have Hfin := Lib.hid (jout (P := fun d1 d2 => ∃ L H, HeldV E false k L0 H0 L H ∧ Un k L d1 ∧ Un k H d2) (g1 := g1) (e1 := e1) (g2 := g2) (e2 := e2) jr K0.out.all (by omega) (by omega)
      HLs.out.1 HLs.out.2 HBs.out.1 HBs.out.2.1 ⟨L0, H0, Or.inl ⟨rfl, rfl⟩, HBs.out.2.2.1, HBs.out.2.2.2⟩)
    have z0 := jr.x0
    have z1 := jr.x1
    have z2 := jr.x2
    have z3 := jr.x3
    have z4 := jr.x4
    have z5 := jr.x5
    clear hv hc jr K0 HLs HL5 HI5 HBs HS5 HFF hF
    go_wp2
    exact bodyPost_ret (v := .agg #[.bool g1, .slice A1 m1 c1, .int .i64 e1, .bool g2, .slice A2 m2 c2, .int .i64 e2]) (by simp [results, Tryd.results15, go_sem, z0, z1, z2, z3, z4, z5]) rfl Hfin.out

theorem held_lg (E : Int) (neg : Bool) (k : Nat) (g1 : Bool) (A1 : Option Addr) (m1 c1 : Nat) (zs : List Nat) (e1 : Int) (g2 : Bool) (A2 : Option Addr) (m2 c2 : Nat) (us : List Nat) (e2 : Int) (L0 H0 : Int) (w : World) (h1 : Lim w A1 m1 c1 zs) (h2 : Lim w A2 m2 c2 us) (b1 : Bare zs) (b2 : Bare us) (hm1 : m1 ≤ 300) (hm2 : m2 ≤ 300) (hT : Tab w) (hE1 : -1048579 ≤ E) (hE2 : E ≤ 1048579) (hk8 : 8 ≤ k) (hk9 : k ≤ 9000) (u1 : Un k L0 ⟨g1, val zs, e1⟩) (u2 : Un k H0 ⟨g2, val us, e2⟩) :
    Calls Tryd.prog 15 #[.agg #[.bool g1, .slice A1 m1 c1, .int .i64 e1, .bool g2, .slice A2 m2 c2, .int .i64 e2], .int .i64 E, .bool neg, .int .i64 (k : Int)] w (JTold w fun d1 d2 => ∃ L H, HeldV E neg k L0 H0 L H ∧ Un k L d1 ∧ Un k H d2) := by
  cases neg with
  | true => exact held_true E k g1 A1 m1 c1 zs e1 g2 A2 m2 c2 us e2 L0 H0 w h1 h2 b1 b2 hm1 hm2 hT hE1 hE2 hk8 hk9 u1 u2
  | false => exact held_false E k g1 A1 m1 c1 zs e1 g2 A2 m2 c2 us e2 L0 H0 w h1 h2 b1 b2 hm1 hm2 hT hE1 hE2 hk8 hk9 u1 u2
end Go.Proofs.YtijhdlkfihjbiaaDoor
