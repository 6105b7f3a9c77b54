/- Texts joined into one, in build order: RnRef, RnSum, RnCmp, RnSeek, RnBelow, RnMid, NxTo, NxTellsZ, NxTellsN, NxTellsP, NxTells. -/
import Derived.Test.YtgacafdkhailmaaDoorFlNum
import Derived.Test.YtgacafdkhailmaaDoorT1
import Derived.Test.YtgacafdkhailmaaDoorWRAdd
import Derived.Test.YtgacafdkhailmaaDoorWRSub
import Derived.Deep.Cut
import Derived.Test.YtgacafdkhailmaaDoorFlTo
/- The document's numbers: planimeterref05.Sign, Top, Add. -/
namespace Go.Proofs.YtgacafdkhailmaaDoor
open Go.RowKit

theorem dnil_iff {w : World} {A : Option Addr} {n c : Nat} {ds : List Nat} (h : Dig w A n c ds) (hb : D.Bare ds) : n = 0 ↔ D.val ds = 0 := by
  rw [← D.tl_zero_iff, hb, h.len]

theorem rsign_l (v : Int) (g : Bool) (A : Option Addr) (n c : Nat) (ds : List Nat) (e0 : Int) (w : World) (hA : Dig w A n c ds) (hb : D.Bare ds) (hv : Hid (sgD g (D.val ds) = v)) :
    Calls Tryd.prog 66 #[.agg #[.bool g, .slice A n c, .int .i64 e0]] w fun e w' => e = .returned (.int .i64 v) ∧ Below w.heap.size w w' := by
  have H1 := Lib.hid (below1 w (.cells #[.bool g, .slice A n c, .int .i64 e0] 37))
  have hv' := hv.out
  have hz := dnil_iff hA hb
  unfold sgD at hv'
  clear hv hA hb
  by_cases h0 : D.val ds = 0
  · rw [if_pos h0] at hv'
    subst hv'
    obtain rfl := hz.2 h0
    clear hz h0
    go_enter Tryd.func66, Tryd.ntmps66
    go_wp2
    go_ret
    exact ⟨rfl, H1.out⟩
  · rw [if_neg h0] at hv'
    have c1 : ((n : Int) == 0) = false := beq_no (by omega)
    clear hz h0
    cases g <;> subst hv' <;> (
      go_enter Tryd.func66, Tryd.ntmps66
      go_wp2
      go_ret
      exact ⟨rfl, H1.out⟩)

theorem rtop_l (v : Int) (g : Bool) (A : Option Addr) (n c : Nat) (ds : List Nat) (e0 : Int) (w : World) (hA : Dig w A n c ds) (hb : D.Bare ds) (hn : n ≤ 1000000) (h1 : -4294967296 ≤ e0) (h2 : e0 ≤ 4294967296) (hv : Hid (rtop (D.val ds) e0 = v)) :
    Calls Tryd.prog 67 #[.agg #[.bool g, .slice A n c, .int .i64 e0]] w fun e w' => e = .returned (.int .i64 v) ∧ Below w.heap.size w w' := by
  have a1 := below1 w (.cells #[.bool g, .slice A n c, .int .i64 e0] 37)
  have hlt := D.val_lt hA.words
  rw [hA.len, D.pw_two] at hlt
  have hbl : blen (D.val ds) ≤ 16 * n := blen_le_iff.2 hlt
  have H2 := fun q => rbits_any A n c ds ((w.alloc (.cells #[.bool g, .slice A n c, .int .i64 e0] 37)).drewN q) ((hA.below a1).drewN q) hb hn
  have hv' : (blen (D.val ds) : Int) - 1 + e0 = v := hv.out
  generalize blen (D.val ds) = B at *
  have H2 := Lib.hid H2
  have HS := Lib.hid a1
  have HV := Lib.hid hv'
  have hw : IntKind.i64.wrap ((B : Int) - 1 + e0) = (B : Int) - 1 + e0 := by rw [IntKind.wrap_i64]; omega
  clear hA hb a1 hlt hv hv'
  go_enter Tryd.func67, Tryd.ntmps67
  go_wp2
  go_quiet ((go_at_call 62; exact quiet_one (H2.out _)))
  go_wp2
  go_ret
  exact ⟨ret_int HV.out, below_drewN HS.out _⟩

/-- Two numbers of the document, in their boxes. -/
def HN (w0 : World) (b1 : Nat) (g : Bool) (A : Option Addr) (n c : Nat) (ds : List Nat) (e1 : Int) (b2 : Nat) (k : Bool) (B : Option Addr) (m d : Nat) (es : List Nat) (e2 : Int) (w : World) : Prop :=
  Bd w b1 37 g A n c e1 ∧ Bd w b2 37 k B m d e2 ∧ Dig w A n c ds ∧ Dig w B m d es ∧ Below w0.heap.size w0 w
abbrev CellsN (w0 : World) (b1 : Nat) (g : Bool) (A : Option Addr) (n c : Nat) (ds : List Nat) (e1 : Int) (b2 : Nat) (k : Bool) (B : Option Addr) (m d : Nat) (es : List Nat) (e2 : Int) (w' : World) : Prop :=
  w'.cell? ⟨b1, 0, none⟩ = some (.bool g) ∧ w'.cell? ⟨b1, 1, none⟩ = some (.slice A n c) ∧ w'.cell? ⟨b1, 2, none⟩ = some (.int .i64 e1) ∧ w'.cell? ⟨b2, 0, none⟩ = some (.bool k) ∧ w'.cell? ⟨b2, 1, none⟩ = some (.slice B m d) ∧ w'.cell? ⟨b2, 2, none⟩ = some (.int .i64 e2) ∧ Hid (HN w0 b1 g A n c ds e1 b2 k B m d es e2 w')
section
variable {w0 : World} {b1 : Nat} {g : Bool} {A : Option Addr} {n c : Nat} {ds : List Nat} {e1 : Int} {b2 : Nat} {k : Bool} {B : Option Addr} {m d : Nat} {es : List Nat} {e2 : Int} {w w' : World}
theorem HN.below (h : HN w0 b1 g A n c ds e1 b2 k B m d es e2 w) (hb : Below w.heap.size w w') : HN w0 b1 g A n c ds e1 b2 k B m d es e2 w' := by
  obtain ⟨h1, h2, h3, h4, h5⟩ := h
  exact ⟨h1.below hb, h2.below hb, h3.below hb, h4.below hb, h5.trans (hb.mono h5.size)⟩
theorem HN.cells (h : HN w0 b1 g A n c ds e1 b2 k B m d es e2 w) : CellsN w0 b1 g A n c ds e1 b2 k B m d es e2 w := ⟨h.1.c0, h.1.c1, h.1.c2, h.2.1.c0, h.2.1.c1, h.2.1.c2, h⟩
end
theorem HN.start (w : World) (g : Bool) (A : Option Addr) (n c : Nat) (ds : List Nat) (e1 : Int) (k : Bool) (B : Option Addr) (m d : Nat) (es : List Nat) (e2 : Int) (hA : Dig w A n c ds) (hB : Dig w B m d es) :
    HN w w.heap.size g A n c ds e1 (w.heap.size + 1) k B m d es e2 ((w.alloc (.cells #[.bool g, .slice A n c, .int .i64 e1] 37)).alloc (.cells #[.bool k, .slice B m d, .int .i64 e2] 37)) := by
  have a3 : Below w.heap.size w ((w.alloc (.cells #[.bool g, .slice A n c, .int .i64 e1] 37)).alloc (.cells #[.bool k, .slice B m d, .int .i64 e2] 37)) := ((Below.refl _ _).alloc (Nat.le_refl _) _).alloc (by simp) _
  have b1 := (Bd.new w 37 g A n c e1).alloc (.cells #[.bool k, .slice B m d, .int .i64 e2] 37)
  have b2 := Bd.new (w.alloc (.cells #[.bool g, .slice A n c, .int .i64 e1] 37)) 37 k B m d e2
  rw [World.size_alloc] at b2
  exact ⟨b1, b2, hA.below a3, hB.below a3, a3⟩
theorem HN.start3 (w : World) (g : Bool) (A : Option Addr) (n c : Nat) (ds : List Nat) (e1 : Int) (k : Bool) (B : Option Addr) (m d : Nat) (es : List Nat) (e2 : Int) (hA : Dig w A n c ds) (hB : Dig w B m d es) :
    HN w w.heap.size g A n c ds e1 (w.heap.size + 1) k B m d es e2 (((w.alloc (.cells #[.bool g, .slice A n c, .int .i64 e1] 37)).alloc (.cells #[.bool k, .slice B m d, .int .i64 e2] 37)).alloc (.cells #[.bool false, .slice none 0 0, .int .i64 0] 37)) ∧
    Bd (((w.alloc (.cells #[.bool g, .slice A n c, .int .i64 e1] 37)).alloc (.cells #[.bool k, .slice B m d, .int .i64 e2] 37)).alloc (.cells #[.bool false, .slice none 0 0, .int .i64 0] 37)) (w.heap.size + 1 + 1) 37 false none 0 0 0 := by
  have b3 := Bd.new ((w.alloc (.cells #[.bool g, .slice A n c, .int .i64 e1] 37)).alloc (.cells #[.bool k, .slice B m d, .int .i64 e2] 37)) 37 false none 0 0 0
  rw [World.size_alloc, World.size_alloc] at b3
  exact ⟨(HN.start w g A n c ds e1 k B m d es e2 hA hB).below (below1 _ _), b3⟩

/-- The first number is 0: the second one. -/
theorem radd_zero (g : Bool) (A : Option Addr) (c : Nat) (e1 : Int) (k : Bool) (B : Option Addr) (m d : Nat) (es : List Nat) (e2 : Int) (w : World) (hB : Dig w B m d es) (bb : D.Bare es) :
    Calls Tryd.prog 59 #[.agg #[.bool g, .slice A 0 c, .int .i64 e1], .agg #[.bool k, .slice B m d, .int .i64 e2]] w (NTold w ⟨k, D.val es, e2⟩ m) := by
  have h0 := (HN.start w g A 0 c [] e1 k B m d es e2 (Dig.nil _ _ _) hB).below (below1 _ (.cells #[.bool k, .slice B m d, .int .i64 e2] 37))
  have Hfin : Hid (NTold w ⟨k, D.val es, e2⟩ m (.returned (.agg #[.bool k, .slice B m d, .int .i64 e2])) (((w.alloc (.cells #[.bool g, .slice A 0 c, .int .i64 e1] 37)).alloc (.cells #[.bool k, .slice B m d, .int .i64 e2] 37)).alloc (.cells #[.bool k, .slice B m d, .int .i64 e2] 37))) :=
    ⟨B, m, d, es, rfl, Nat.le_refl _, h0.2.2.2.1, bb, rfl, h0.2.2.2.2⟩
  clear h0 hB bb
  go_enter Tryd.func59, Tryd.ntmps59
  go_wp2
  exact bodyPost_ret (v := .agg #[.bool k, .slice B m d, .int .i64 e2]) (by simp [results, Tryd.results59, go_sem]) rfl Hfin.out
end Go.Proofs.YtgacafdkhailmaaDoor

/- The document's numbers: planimeterref05.Add of two that aren't 0. Written by law_rsum.py. -/
namespace Go.Proofs.YtgacafdkhailmaaDoor
open Go.RowKit

/-- .. and the result's block. -/
def HS3 (w0 : World) (b1 : Nat) (g : Bool) (A : Option Addr) (n c : Nat) (ds : List Nat) (e1 : Int) (b2 : Nat) (k : Bool) (B : Option Addr) (m d : Nat) (es : List Nat) (e2 : Int) (b3 : Nat) (w : World) : Prop :=
  HN w0 b1 g A n c ds e1 b2 k B m d es e2 w ∧ Bd w b3 37 false none 0 0 0
abbrev CellsS (w0 : World) (b1 : Nat) (g : Bool) (A : Option Addr) (n c : Nat) (ds : List Nat) (e1 : Int) (b2 : Nat) (k : Bool) (B : Option Addr) (m d : Nat) (es : List Nat) (e2 : Int) (b3 : Nat) (w' : World) : Prop :=
  w'.cell? ⟨b1, 0, none⟩ = some (.bool g) ∧ w'.cell? ⟨b1, 1, none⟩ = some (.slice A n c) ∧ w'.cell? ⟨b1, 2, none⟩ = some (.int .i64 e1) ∧ w'.cell? ⟨b2, 0, none⟩ = some (.bool k) ∧ w'.cell? ⟨b2, 1, none⟩ = some (.slice B m d) ∧ w'.cell? ⟨b2, 2, none⟩ = some (.int .i64 e2) ∧ Hid (HS3 w0 b1 g A n c ds e1 b2 k B m d es e2 b3 w')
section
variable {w0 : World} {b1 : Nat} {g : Bool} {A : Option Addr} {n c : Nat} {ds : List Nat} {e1 : Int} {b2 : Nat} {k : Bool} {B : Option Addr} {m d : Nat} {es : List Nat} {e2 : Int} {b3 : Nat} {w w' : World}
theorem HS3.below (h : HS3 w0 b1 g A n c ds e1 b2 k B m d es e2 b3 w) (hb : Below w.heap.size w w') : HS3 w0 b1 g A n c ds e1 b2 k B m d es e2 b3 w' := ⟨h.1.below hb, h.2.below hb⟩
theorem HS3.cells (h : HS3 w0 b1 g A n c ds e1 b2 k B m d es e2 b3 w) : CellsS w0 b1 g A n c ds e1 b2 k B m d es e2 b3 w := ⟨h.1.1.c0, h.1.1.c1, h.1.1.c2, h.1.2.1.c0, h.1.2.1.c1, h.1.2.1.c2, h⟩
end

set_option maxHeartbeats 1000000 in
theorem radd_sum_L (x y q : Nat) (A : Option Addr) (n c : Nat) (ds : List Nat) (e1 : Int) (B : Option Addr) (m d : Nat) (es : List Nat) (e2 : Int) (w : World) (hA : Dig w A n c ds) (hB : Dig w B m d es) (ba : D.Bare ds) (bb : D.Bare es) (hn : n ≤ 1000) (hm : m ≤ 1000) (hn0 : n ≠ 0) (hm0 : m ≠ 0)
    (hd : e1 - e2 = (q : Int)) (hq : q ≤ 4000) (hl : e2 < e1) (hx : Hid (D.val ds * 2 ^ q = x)) (hy : Hid (D.val es = y)) :
    Calls Tryd.prog 59 #[.agg #[.bool false, .slice A n c, .int .i64 e1], .agg #[.bool false, .slice B m d, .int .i64 e2]] w (NTold w ⟨false, x + y, e2⟩ 100001) := by
  have h0 : HS3 w w.heap.size false A n c ds e1 (w.heap.size + 1) false B m d es e2 (w.heap.size + 1 + 1) _ := HN.start3 w false A n c ds e1 false B m d es e2 hA hB
  have K0 := Lib.hid (h0.below (below_drew _)).cells
  have HP1 : Hid (∀ u, CellsS w w.heap.size false A n c ds e1 (w.heap.size + 1) false B m d es e2 (w.heap.size + 1 + 1) u → Calls Tryd.prog 77 #[.slice A n c, .int .i64 (q : Int)] u fun e w' => ∃ (A6 : Option Addr) (m6 c6 : Nat) (ps : List Nat), e = .returned (.slice A6 m6 c6) ∧ m6 ≤ 100000 ∧ CellsS w w.heap.size false A n c ds e1 (w.heap.size + 1) false B m d es e2 (w.heap.size + 1 + 1) w' ∧ Hid (Dig w' A6 m6 c6 ps ∧ D.Bare ps ∧ D.val ps = x ∧ Below u.heap.size u w')) := fun u hu => by
    have h := hu.2.2.2.2.2.2.out
    have this := rshl_any A n c ds q u h.1.2.2.1 ba (by omega) (by omega)
    rw [hx.out] at this
    refine this.mono ?_
    rintro e w' ⟨A6, m6, c6, ps, rfl, q1, q2, q3, q4, q5⟩
    exact ⟨A6, m6, c6, ps, rfl, q1, (h.below q5).cells, q2, q3, q4, q5⟩
  have HP2 : Hid (∀ u, CellsS w w.heap.size false A n c ds e1 (w.heap.size + 1) false B m d es e2 (w.heap.size + 1 + 1) u → Calls Tryd.prog 77 #[.slice B m d, .int .i64 0] u fun e w' => ∃ (A6 : Option Addr) (m6 c6 : Nat) (ps : List Nat), e = .returned (.slice A6 m6 c6) ∧ m6 ≤ 100000 ∧ CellsS w w.heap.size false A n c ds e1 (w.heap.size + 1) false B m d es e2 (w.heap.size + 1 + 1) w' ∧ Hid (Dig w' A6 m6 c6 ps ∧ D.Bare ps ∧ D.val ps = y ∧ Below u.heap.size u w')) := fun u hu => by
    have h := hu.2.2.2.2.2.2.out
    have this := rshl_any B m d es 0 u h.1.2.2.2.1 bb (by omega) (by omega)
    rw [show ((0 : Nat) : Int) = 0 from rfl, Nat.pow_zero, Nat.mul_one] at this
    rw [hy.out] at this
    refine this.mono ?_
    rintro e w' ⟨A6, m6, c6, ps, rfl, q1, q2, q3, q4, q5⟩
    exact ⟨A6, m6, c6, ps, rfl, q1, (h.below q5).cells, q2, q3, q4, q5⟩
  have hwq : IntKind.i64.wrap (q : Int) = (q : Int) := by rw [IntKind.wrap_i64]; omega
  have hw0 : IntKind.i64.wrap 0 = 0 := by decide
  have c1 : ((n : Int) == 0) = false := beq_no (by omega)
  have c2 : ((m : Int) == 0) = false := beq_no (by omega)
  have x1 := h0.1.1.c1
  have x2 := h0.1.1.c2
  have y1 := h0.1.2.1.c1
  have y2 := h0.1.2.1.c2
  have b1 : decide (e2 < e1) = true := decide_eq_true hl
  clear hA hB ba bb hx hy h0 hl hn0 hm0
  go_enter Tryd.func59, Tryd.ntmps59
  go_wp2_with fail
  go_region_held3 (fun w' => w'.cell? ⟨w.heap.size, 0, none⟩ = some (.bool false) ∧ w'.cell? ⟨w.heap.size, 1, none⟩ = some (.slice A n c) ∧ w'.cell? ⟨w.heap.size, 2, none⟩ = some (.int .i64 e1) ∧ w'.cell? ⟨w.heap.size + 1, 0, none⟩ = some (.bool false) ∧ w'.cell? ⟨w.heap.size + 1, 1, none⟩ = some (.slice B m d) ∧ w'.cell? ⟨w.heap.size + 1, 2, none⟩ = some (.int .i64 e2) ∧ Hid (HS3 w w.heap.size false A n c ds e1 (w.heap.size + 1) false B m d es e2 (w.heap.size + 1 + 1) w'))
    (first | (with_reducible exact K0.out) | (with_reducible assumption))
    (first | (go_at_call 77; (with_reducible refine (HP1.out _ (by first | (with_reducible exact K0.out) | (with_reducible assumption))).mono ?_); rintro e w1 ⟨A6, m6, c6, ps, rfl, hm6, hY, hP6⟩) | (go_at_call 77; (with_reducible refine (HP2.out _ (by first | (with_reducible exact K0.out) | (with_reducible assumption))).mono ?_); rintro e w2 ⟨A7, m7, c7, qs, rfl, hm7, hZ, hP7⟩))
  have G1 := hP6.out.1.below hP7.out.2.2.2
  have G2 := hP7.out.1
  have HZ := Lib.hid hZ.2.2.2.2.2.2.out
  have HB := Lib.hid (And.intro hP6.out.2.1 (And.intro hP6.out.2.2.1 (And.intro hP7.out.2.1 hP7.out.2.2.1)))
  have Z0 := Lib.hid (HZ.out.below (below_drew _)).cells
  have HC : Hid (∀ u, Dig u A6 m6 c6 ps → Dig u A7 m7 c7 qs → CellsS w w.heap.size false A n c ds e1 (w.heap.size + 1) false B m d es e2 (w.heap.size + 1 + 1) u → Calls Tryd.prog 78 #[.slice A6 m6 c6, .slice A7 m7 c7] u fun e w' => ∃ (A8 : Option Addr) (m8 c8 : Nat) (rs : List Nat), e = .returned (.slice A8 m8 c8) ∧ m8 ≤ 100001 ∧ CellsS w w.heap.size false A n c ds e1 (w.heap.size + 1) false B m d es e2 (w.heap.size + 1 + 1) w' ∧ Hid (Dig w' A8 m8 c8 rs ∧ D.Bare rs ∧ D.val rs = x + y)) := fun u d1 d2 hu => by
    have h := hu.2.2.2.2.2.2.out
    refine (radd_any A6 m6 c6 ps A7 m7 c7 qs u d1 d2 HB.out.1 HB.out.2.2.1 (by omega) (by omega)).mono ?_
    rintro e w' ⟨A8, m8, c8, rs, rfl, q1, q2, q3, q4, q5⟩
    exact ⟨A8, m8, c8, rs, rfl, by omega, (h.below q5).cells, q2, q3, by rw [q4, HB.out.2.1, HB.out.2.2.2]⟩
  have G1h := Lib.hid (G1.drew)
  have G2h := Lib.hid (G2.drew)
  clear K0 HP1 HP2 hY hP6 hP7 c1 c2 x1 x2 y1 y2 b1 G1 G2
  obtain ⟨x0, x1, x2, y0, y1, y2, _⟩ := hZ
  go_wp2_with fail
  go_region_held3 (fun w' => w'.cell? ⟨w.heap.size, 0, none⟩ = some (.bool false))
    (first | (with_reducible exact Z0.out.1) | (with_reducible exact Kp.out) | (with_reducible exact hX.1))
    ((go_at_call 78; (with_reducible refine (HC.out _ G1h.out G2h.out Z0.out).mono ?_); rintro e w9 ⟨A8, m8, c8, rs, rfl, hm8, hX, hP8⟩; have kb := hX.2.2.2.2.2.2.out.2; have u0 := kb.c0; have u1 := kb.c1; have u2 := kb.c2; have uf := kb.fz; have Hfin : Hid (NTold w ⟨false, x + y, e2⟩ 100001 (.returned (.agg #[.bool false, .slice A8 m8 c8, .int .i64 e2])) (World.put w9 (w.heap.size + 1 + 1) false A8 m8 c8 e2)) := ⟨A8, m8, c8, rs, rfl, hm8, kb.dig hP8.out.1 _ _ _ _ _, hP8.out.2.1, hP8.out.2.2, below_put hX.2.2.2.2.2.2.out.1.2.2.2.2 (by omega) _ _ _ _ _⟩; have hW := hX.2.2.2.2.2.2.out; have Kp : Hid (World.cell? (World.put w9 (w.heap.size + 1 + 1) false A8 m8 c8 e2) ⟨w.heap.size, 0, none⟩ = some (.bool false)) := (hW.1.1.other (by omega) _ _ _ _ _).c0; clear kb hP8 hW))
  all_goals (
    go_wp2_with fail
    exact bodyPost_ret (v := .agg #[.bool false, .slice A8 m8 c8, .int .i64 e2]) (by simp [results, Tryd.results59, go_sem, u0, u1, u2]) rfl Hfin.out)

set_option maxHeartbeats 1000000 in
theorem radd_sum_G (x y q : Nat) (A : Option Addr) (n c : Nat) (ds : List Nat) (e1 : Int) (B : Option Addr) (m d : Nat) (es : List Nat) (e2 : Int) (w : World) (hA : Dig w A n c ds) (hB : Dig w B m d es) (ba : D.Bare ds) (bb : D.Bare es) (hn : n ≤ 1000) (hm : m ≤ 1000) (hn0 : n ≠ 0) (hm0 : m ≠ 0)
    (hd : e2 - e1 = (q : Int)) (hq : q ≤ 4000) (hx : Hid (D.val ds = x)) (hy : Hid (D.val es * 2 ^ q = y)) :
    Calls Tryd.prog 59 #[.agg #[.bool false, .slice A n c, .int .i64 e1], .agg #[.bool false, .slice B m d, .int .i64 e2]] w (NTold w ⟨false, x + y, e1⟩ 100001) := by
  have h0 : HS3 w w.heap.size false A n c ds e1 (w.heap.size + 1) false B m d es e2 (w.heap.size + 1 + 1) _ := HN.start3 w false A n c ds e1 false B m d es e2 hA hB
  have K0 := Lib.hid (h0.below (below_drew _)).cells
  have HP1 : Hid (∀ u, CellsS w w.heap.size false A n c ds e1 (w.heap.size + 1) false B m d es e2 (w.heap.size + 1 + 1) u → Calls Tryd.prog 77 #[.slice A n c, .int .i64 0] u fun e w' => ∃ (A6 : Option Addr) (m6 c6 : Nat) (ps : List Nat), e = .returned (.slice A6 m6 c6) ∧ m6 ≤ 100000 ∧ CellsS w w.heap.size false A n c ds e1 (w.heap.size + 1) false B m d es e2 (w.heap.size + 1 + 1) w' ∧ Hid (Dig w' A6 m6 c6 ps ∧ D.Bare ps ∧ D.val ps = x ∧ Below u.heap.size u w')) := fun u hu => by
    have h := hu.2.2.2.2.2.2.out
    have this := rshl_any A n c ds 0 u h.1.2.2.1 ba (by omega) (by omega)
    rw [show ((0 : Nat) : Int) = 0 from rfl, Nat.pow_zero, Nat.mul_one] at this
    rw [hx.out] at this
    refine this.mono ?_
    rintro e w' ⟨A6, m6, c6, ps, rfl, q1, q2, q3, q4, q5⟩
    exact ⟨A6, m6, c6, ps, rfl, q1, (h.below q5).cells, q2, q3, q4, q5⟩
  have HP2 : Hid (∀ u, CellsS w w.heap.size false A n c ds e1 (w.heap.size + 1) false B m d es e2 (w.heap.size + 1 + 1) u → Calls Tryd.prog 77 #[.slice B m d, .int .i64 (q : Int)] u fun e w' => ∃ (A6 : Option Addr) (m6 c6 : Nat) (ps : List Nat), e = .returned (.slice A6 m6 c6) ∧ m6 ≤ 100000 ∧ CellsS w w.heap.size false A n c ds e1 (w.heap.size + 1) false B m d es e2 (w.heap.size + 1 + 1) w' ∧ Hid (Dig w' A6 m6 c6 ps ∧ D.Bare ps ∧ D.val ps = y ∧ Below u.heap.size u w')) := fun u hu => by
    have h := hu.2.2.2.2.2.2.out
    have this := rshl_any B m d es q u h.1.2.2.2.1 bb (by omega) (by omega)
    rw [hy.out] at this
    refine this.mono ?_
    rintro e w' ⟨A6, m6, c6, ps, rfl, q1, q2, q3, q4, q5⟩
    exact ⟨A6, m6, c6, ps, rfl, q1, (h.below q5).cells, q2, q3, q4, q5⟩
  have hwq : IntKind.i64.wrap (q : Int) = (q : Int) := by rw [IntKind.wrap_i64]; omega
  have hw0 : IntKind.i64.wrap 0 = 0 := by decide
  have c1 : ((n : Int) == 0) = false := beq_no (by omega)
  have c2 : ((m : Int) == 0) = false := beq_no (by omega)
  have x1 := h0.1.1.c1
  have x2 := h0.1.1.c2
  have y1 := h0.1.2.1.c1
  have y2 := h0.1.2.1.c2
  have b1 : decide (e2 < e1) = false := decide_eq_false (by omega)
  clear hA hB ba bb hx hy h0 hn0 hm0
  go_enter Tryd.func59, Tryd.ntmps59
  go_wp2_with fail
  go_region_held3 (fun w' => w'.cell? ⟨w.heap.size, 0, none⟩ = some (.bool false) ∧ w'.cell? ⟨w.heap.size, 1, none⟩ = some (.slice A n c) ∧ w'.cell? ⟨w.heap.size, 2, none⟩ = some (.int .i64 e1) ∧ w'.cell? ⟨w.heap.size + 1, 0, none⟩ = some (.bool false) ∧ w'.cell? ⟨w.heap.size + 1, 1, none⟩ = some (.slice B m d) ∧ w'.cell? ⟨w.heap.size + 1, 2, none⟩ = some (.int .i64 e2) ∧ Hid (HS3 w w.heap.size false A n c ds e1 (w.heap.size + 1) false B m d es e2 (w.heap.size + 1 + 1) w'))
    (first | (with_reducible exact K0.out) | (with_reducible assumption))
    (first | (go_at_call 77; (with_reducible refine (HP1.out _ (by first | (with_reducible exact K0.out) | (with_reducible assumption))).mono ?_); rintro e w1 ⟨A6, m6, c6, ps, rfl, hm6, hY, hP6⟩) | (go_at_call 77; (with_reducible refine (HP2.out _ (by first | (with_reducible exact K0.out) | (with_reducible assumption))).mono ?_); rintro e w2 ⟨A7, m7, c7, qs, rfl, hm7, hZ, hP7⟩))
  have G1 := hP6.out.1.below hP7.out.2.2.2
  have G2 := hP7.out.1
  have HZ := Lib.hid hZ.2.2.2.2.2.2.out
  have HB := Lib.hid (And.intro hP6.out.2.1 (And.intro hP6.out.2.2.1 (And.intro hP7.out.2.1 hP7.out.2.2.1)))
  have Z0 := Lib.hid (HZ.out.below (below_drew _)).cells
  have HC : Hid (∀ u, Dig u A6 m6 c6 ps → Dig u A7 m7 c7 qs → CellsS w w.heap.size false A n c ds e1 (w.heap.size + 1) false B m d es e2 (w.heap.size + 1 + 1) u → Calls Tryd.prog 78 #[.slice A6 m6 c6, .slice A7 m7 c7] u fun e w' => ∃ (A8 : Option Addr) (m8 c8 : Nat) (rs : List Nat), e = .returned (.slice A8 m8 c8) ∧ m8 ≤ 100001 ∧ CellsS w w.heap.size false A n c ds e1 (w.heap.size + 1) false B m d es e2 (w.heap.size + 1 + 1) w' ∧ Hid (Dig w' A8 m8 c8 rs ∧ D.Bare rs ∧ D.val rs = x + y)) := fun u d1 d2 hu => by
    have h := hu.2.2.2.2.2.2.out
    refine (radd_any A6 m6 c6 ps A7 m7 c7 qs u d1 d2 HB.out.1 HB.out.2.2.1 (by omega) (by omega)).mono ?_
    rintro e w' ⟨A8, m8, c8, rs, rfl, q1, q2, q3, q4, q5⟩
    exact ⟨A8, m8, c8, rs, rfl, by omega, (h.below q5).cells, q2, q3, by rw [q4, HB.out.2.1, HB.out.2.2.2]⟩
  have G1h := Lib.hid (G1.drew)
  have G2h := Lib.hid (G2.drew)
  clear K0 HP1 HP2 hY hP6 hP7 c1 c2 x1 x2 y1 y2 b1 G1 G2
  obtain ⟨x0, x1, x2, y0, y1, y2, _⟩ := hZ
  go_wp2_with fail
  go_region_held3 (fun w' => w'.cell? ⟨w.heap.size, 0, none⟩ = some (.bool false))
    (first | (with_reducible exact Z0.out.1) | (with_reducible exact Kp.out) | (with_reducible exact hX.1))
    ((go_at_call 78; (with_reducible refine (HC.out _ G1h.out G2h.out Z0.out).mono ?_); rintro e w9 ⟨A8, m8, c8, rs, rfl, hm8, hX, hP8⟩; have kb := hX.2.2.2.2.2.2.out.2; have u0 := kb.c0; have u1 := kb.c1; have u2 := kb.c2; have uf := kb.fz; have Hfin : Hid (NTold w ⟨false, x + y, e1⟩ 100001 (.returned (.agg #[.bool false, .slice A8 m8 c8, .int .i64 e1])) (World.put w9 (w.heap.size + 1 + 1) false A8 m8 c8 e1)) := ⟨A8, m8, c8, rs, rfl, hm8, kb.dig hP8.out.1 _ _ _ _ _, hP8.out.2.1, hP8.out.2.2, below_put hX.2.2.2.2.2.2.out.1.2.2.2.2 (by omega) _ _ _ _ _⟩; have hW := hX.2.2.2.2.2.2.out; have Kp : Hid (World.cell? (World.put w9 (w.heap.size + 1 + 1) false A8 m8 c8 e1) ⟨w.heap.size, 0, none⟩ = some (.bool false)) := (hW.1.1.other (by omega) _ _ _ _ _).c0; clear kb hP8 hW))
  all_goals (
    go_wp2_with fail
    exact bodyPost_ret (v := .agg #[.bool false, .slice A8 m8 c8, .int .i64 e1]) (by simp [results, Tryd.results59, go_sem, u0, u1, u2]) rfl Hfin.out)

set_option maxHeartbeats 1000000 in
theorem radd_ge_L (x y q : Nat) (A : Option Addr) (n c : Nat) (ds : List Nat) (e1 : Int) (B : Option Addr) (m d : Nat) (es : List Nat) (e2 : Int) (w : World) (hA : Dig w A n c ds) (hB : Dig w B m d es) (ba : D.Bare ds) (bb : D.Bare es) (hn : n ≤ 1000) (hm : m ≤ 1000) (hn0 : n ≠ 0) (hm0 : m ≠ 0)
    (hd : e1 - e2 = (q : Int)) (hq : q ≤ 4000) (hl : e2 < e1) (hx : Hid (D.val ds * 2 ^ q = x)) (hy : Hid (D.val es = y)) (ho : y ≤ x) :
    Calls Tryd.prog 59 #[.agg #[.bool false, .slice A n c, .int .i64 e1], .agg #[.bool true, .slice B m d, .int .i64 e2]] w (NTold w ⟨false, x - y, e2⟩ 100001) := by
  have h0 : HS3 w w.heap.size false A n c ds e1 (w.heap.size + 1) true B m d es e2 (w.heap.size + 1 + 1) _ := HN.start3 w false A n c ds e1 true B m d es e2 hA hB
  have K0 := Lib.hid (h0.below (below_drew _)).cells
  have HP1 : Hid (∀ u, CellsS w w.heap.size false A n c ds e1 (w.heap.size + 1) true B m d es e2 (w.heap.size + 1 + 1) u → Calls Tryd.prog 77 #[.slice A n c, .int .i64 (q : Int)] u fun e w' => ∃ (A6 : Option Addr) (m6 c6 : Nat) (ps : List Nat), e = .returned (.slice A6 m6 c6) ∧ m6 ≤ 100000 ∧ CellsS w w.heap.size false A n c ds e1 (w.heap.size + 1) true B m d es e2 (w.heap.size + 1 + 1) w' ∧ Hid (Dig w' A6 m6 c6 ps ∧ D.Bare ps ∧ D.val ps = x ∧ Below u.heap.size u w')) := fun u hu => by
    have h := hu.2.2.2.2.2.2.out
    have this := rshl_any A n c ds q u h.1.2.2.1 ba (by omega) (by omega)
    rw [hx.out] at this
    refine this.mono ?_
    rintro e w' ⟨A6, m6, c6, ps, rfl, q1, q2, q3, q4, q5⟩
    exact ⟨A6, m6, c6, ps, rfl, q1, (h.below q5).cells, q2, q3, q4, q5⟩
  have HP2 : Hid (∀ u, CellsS w w.heap.size false A n c ds e1 (w.heap.size + 1) true B m d es e2 (w.heap.size + 1 + 1) u → Calls Tryd.prog 77 #[.slice B m d, .int .i64 0] u fun e w' => ∃ (A6 : Option Addr) (m6 c6 : Nat) (ps : List Nat), e = .returned (.slice A6 m6 c6) ∧ m6 ≤ 100000 ∧ CellsS w w.heap.size false A n c ds e1 (w.heap.size + 1) true B m d es e2 (w.heap.size + 1 + 1) w' ∧ Hid (Dig w' A6 m6 c6 ps ∧ D.Bare ps ∧ D.val ps = y ∧ Below u.heap.size u w')) := fun u hu => by
    have h := hu.2.2.2.2.2.2.out
    have this := rshl_any B m d es 0 u h.1.2.2.2.1 bb (by omega) (by omega)
    rw [show ((0 : Nat) : Int) = 0 from rfl, Nat.pow_zero, Nat.mul_one] at this
    rw [hy.out] at this
    refine this.mono ?_
    rintro e w' ⟨A6, m6, c6, ps, rfl, q1, q2, q3, q4, q5⟩
    exact ⟨A6, m6, c6, ps, rfl, q1, (h.below q5).cells, q2, q3, q4, q5⟩
  have hwq : IntKind.i64.wrap (q : Int) = (q : Int) := by rw [IntKind.wrap_i64]; omega
  have hw0 : IntKind.i64.wrap 0 = 0 := by decide
  have c1 : ((n : Int) == 0) = false := beq_no (by omega)
  have c2 : ((m : Int) == 0) = false := beq_no (by omega)
  have x1 := h0.1.1.c1
  have x2 := h0.1.1.c2
  have y1 := h0.1.2.1.c1
  have y2 := h0.1.2.1.c2
  have b1 : decide (e2 < e1) = true := decide_eq_true hl
  clear hA hB ba bb hx hy h0 hl hn0 hm0
  go_enter Tryd.func59, Tryd.ntmps59
  go_wp2_with fail
  go_region_held3 (fun w' => w'.cell? ⟨w.heap.size, 0, none⟩ = some (.bool false) ∧ w'.cell? ⟨w.heap.size, 1, none⟩ = some (.slice A n c) ∧ w'.cell? ⟨w.heap.size, 2, none⟩ = some (.int .i64 e1) ∧ w'.cell? ⟨w.heap.size + 1, 0, none⟩ = some (.bool true) ∧ w'.cell? ⟨w.heap.size + 1, 1, none⟩ = some (.slice B m d) ∧ w'.cell? ⟨w.heap.size + 1, 2, none⟩ = some (.int .i64 e2) ∧ Hid (HS3 w w.heap.size false A n c ds e1 (w.heap.size + 1) true B m d es e2 (w.heap.size + 1 + 1) w'))
    (first | (with_reducible exact K0.out) | (with_reducible assumption))
    (first | (go_at_call 77; (with_reducible refine (HP1.out _ (by first | (with_reducible exact K0.out) | (with_reducible assumption))).mono ?_); rintro e w1 ⟨A6, m6, c6, ps, rfl, hm6, hY, hP6⟩) | (go_at_call 77; (with_reducible refine (HP2.out _ (by first | (with_reducible exact K0.out) | (with_reducible assumption))).mono ?_); rintro e w2 ⟨A7, m7, c7, qs, rfl, hm7, hZ, hP7⟩))
  have G1 := hP6.out.1.below hP7.out.2.2.2
  have G2 := hP7.out.1
  have HZ := Lib.hid hZ.2.2.2.2.2.2.out
  have HB := Lib.hid (And.intro hP6.out.2.1 (And.intro hP6.out.2.2.1 (And.intro hP7.out.2.1 hP7.out.2.2.1)))
  have Z0 := Lib.hid (HZ.out.below (below_drew _)).cells
  have HC : Hid (∀ u, Dig u A6 m6 c6 ps → Dig u A7 m7 c7 qs → CellsS w w.heap.size false A n c ds e1 (w.heap.size + 1) true B m d es e2 (w.heap.size + 1 + 1) u → Calls Tryd.prog 80 #[.slice A6 m6 c6, .slice A7 m7 c7] u fun e w' => ∃ (A8 : Option Addr) (m8 c8 : Nat) (rs : List Nat), e = .returned (.slice A8 m8 c8) ∧ m8 ≤ 100001 ∧ CellsS w w.heap.size false A n c ds e1 (w.heap.size + 1) true B m d es e2 (w.heap.size + 1 + 1) w' ∧ Hid (Dig w' A8 m8 c8 rs ∧ D.Bare rs ∧ D.val rs = x - y)) := fun u d1 d2 hu => by
    have h := hu.2.2.2.2.2.2.out
    refine (rsub_any A6 m6 c6 ps A7 m7 c7 qs u d1 d2 HB.out.2.2.1 (by rw [HB.out.2.1, HB.out.2.2.2]; exact ho) (by omega) (by omega)).mono ?_
    rintro e w' ⟨A8, m8, c8, rs, rfl, q1, q2, q3, q4, q5⟩
    exact ⟨A8, m8, c8, rs, rfl, by omega, (h.below q5).cells, q2, q3, by rw [q4, HB.out.2.1, HB.out.2.2.2]⟩
  obtain ⟨z, hz⟩ : ∃ z, cmpZ x y = z := ⟨_, rfl⟩
  have HR := rcmp_any A6 m6 c6 ps A7 m7 c7 qs w2 G1 G2 HB.out.1 HB.out.2.2.1 (by omega) (by omega)
  rw [HB.out.2.1, HB.out.2.2.2, hz] at HR
  have HR := Lib.hid HR
  have b3 : decide (0 ≤ z) = true := by
    rw [← hz]
    exact decide_eq_true (by have := cmpZ_bd x y; by_cases h : y < x; (rw [cmpZ_gt h]; decide); (rw [cmpZ_eq (by omega)]; decide))
  have G1h := Lib.hid G1
  have G2h := Lib.hid G2
  clear hz
  clear K0 HP1 HP2 hY hP6 hP7 c1 c2 x1 x2 y1 y2 b1 G1 G2
  obtain ⟨x0, x1, x2, y0, y1, y2, _⟩ := hZ
  go_wp2_with fail
  refine HR.out.mono ?_
  rintro e w3 ⟨rfl, nq, rfl⟩
  have Hq := Lib.hid (HZ.out.below (below_drewN (Below.refl _ _) nq))
  have Zq := Lib.hid (HZ.out.below (below_drewN (Below.refl _ _) (nq + 1))).cells
  have Zr := Lib.hid (Hq.out.below (below_drew _)).cells
  have G1q := Lib.hid (G1h.out.drewN (nq + 1))
  have G2q := Lib.hid (G2h.out.drewN (nq + 1))
  obtain ⟨v0, v1, v2, s0, s1, s2, _⟩ := Hq.out.cells
  clear x0 x1 x2 y0 y1 y2 HR HZ Z0
  go_wp2_with fail
  go_region_held3 (fun w' => w'.cell? ⟨w.heap.size, 0, none⟩ = some (.bool false))
    (first | (with_reducible exact Zq.out.1) | (with_reducible exact Zr.out.1) | (with_reducible exact Kp.out) | (with_reducible exact hX.1))
    ((go_at_call 80; (with_reducible refine (HC.out _ G1q.out G2q.out Zq.out).mono ?_); rintro e w9 ⟨A8, m8, c8, rs, rfl, hm8, hX, hP8⟩; have kb := hX.2.2.2.2.2.2.out.2; have u0 := kb.c0; have u1 := kb.c1; have u2 := kb.c2; have uf := kb.fz; have Hfin : Hid (NTold w ⟨false, x - y, e2⟩ 100001 (.returned (.agg #[.bool false, .slice A8 m8 c8, .int .i64 e2])) (World.put w9 (w.heap.size + 1 + 1) false A8 m8 c8 e2)) := ⟨A8, m8, c8, rs, rfl, hm8, kb.dig hP8.out.1 _ _ _ _ _, hP8.out.2.1, hP8.out.2.2, below_put hX.2.2.2.2.2.2.out.1.2.2.2.2 (by omega) _ _ _ _ _⟩; have hW := hX.2.2.2.2.2.2.out; have Kp : Hid (World.cell? (World.put w9 (w.heap.size + 1 + 1) false A8 m8 c8 e2) ⟨w.heap.size, 0, none⟩ = some (.bool false)) := (hW.1.1.other (by omega) _ _ _ _ _).c0; clear kb hP8 hW))
  all_goals (
    go_wp2_with fail
    exact bodyPost_ret (v := .agg #[.bool false, .slice A8 m8 c8, .int .i64 e2]) (by simp [results, Tryd.results59, go_sem, u0, u1, u2]) rfl Hfin.out)

set_option maxHeartbeats 1000000 in
theorem radd_ge_G (x y q : Nat) (A : Option Addr) (n c : Nat) (ds : List Nat) (e1 : Int) (B : Option Addr) (m d : Nat) (es : List Nat) (e2 : Int) (w : World) (hA : Dig w A n c ds) (hB : Dig w B m d es) (ba : D.Bare ds) (bb : D.Bare es) (hn : n ≤ 1000) (hm : m ≤ 1000) (hn0 : n ≠ 0) (hm0 : m ≠ 0)
    (hd : e2 - e1 = (q : Int)) (hq : q ≤ 4000) (hx : Hid (D.val ds = x)) (hy : Hid (D.val es * 2 ^ q = y)) (ho : y ≤ x) :
    Calls Tryd.prog 59 #[.agg #[.bool false, .slice A n c, .int .i64 e1], .agg #[.bool true, .slice B m d, .int .i64 e2]] w (NTold w ⟨false, x - y, e1⟩ 100001) := by
  have h0 : HS3 w w.heap.size false A n c ds e1 (w.heap.size + 1) true B m d es e2 (w.heap.size + 1 + 1) _ := HN.start3 w false A n c ds e1 true B m d es e2 hA hB
  have K0 := Lib.hid (h0.below (below_drew _)).cells
  have HP1 : Hid (∀ u, CellsS w w.heap.size false A n c ds e1 (w.heap.size + 1) true B m d es e2 (w.heap.size + 1 + 1) u → Calls Tryd.prog 77 #[.slice A n c, .int .i64 0] u fun e w' => ∃ (A6 : Option Addr) (m6 c6 : Nat) (ps : List Nat), e = .returned (.slice A6 m6 c6) ∧ m6 ≤ 100000 ∧ CellsS w w.heap.size false A n c ds e1 (w.heap.size + 1) true B m d es e2 (w.heap.size + 1 + 1) w' ∧ Hid (Dig w' A6 m6 c6 ps ∧ D.Bare ps ∧ D.val ps = x ∧ Below u.heap.size u w')) := fun u hu => by
    have h := hu.2.2.2.2.2.2.out
    have this := rshl_any A n c ds 0 u h.1.2.2.1 ba (by omega) (by omega)
    rw [show ((0 : Nat) : Int) = 0 from rfl, Nat.pow_zero, Nat.mul_one] at this
    rw [hx.out] at this
    refine this.mono ?_
    rintro e w' ⟨A6, m6, c6, ps, rfl, q1, q2, q3, q4, q5⟩
    exact ⟨A6, m6, c6, ps, rfl, q1, (h.below q5).cells, q2, q3, q4, q5⟩
  have HP2 : Hid (∀ u, CellsS w w.heap.size false A n c ds e1 (w.heap.size + 1) true B m d es e2 (w.heap.size + 1 + 1) u → Calls Tryd.prog 77 #[.slice B m d, .int .i64 (q : Int)] u fun e w' => ∃ (A6 : Option Addr) (m6 c6 : Nat) (ps : List Nat), e = .returned (.slice A6 m6 c6) ∧ m6 ≤ 100000 ∧ CellsS w w.heap.size false A n c ds e1 (w.heap.size + 1) true B m d es e2 (w.heap.size + 1 + 1) w' ∧ Hid (Dig w' A6 m6 c6 ps ∧ D.Bare ps ∧ D.val ps = y ∧ Below u.heap.size u w')) := fun u hu => by
    have h := hu.2.2.2.2.2.2.out
    have this := rshl_any B m d es q u h.1.2.2.2.1 bb (by omega) (by omega)
    rw [hy.out] at this
    refine this.mono ?_
    rintro e w' ⟨A6, m6, c6, ps, rfl, q1, q2, q3, q4, q5⟩
    exact ⟨A6, m6, c6, ps, rfl, q1, (h.below q5).cells, q2, q3, q4, q5⟩
  have hwq : IntKind.i64.wrap (q : Int) = (q : Int) := by rw [IntKind.wrap_i64]; omega
  have hw0 : IntKind.i64.wrap 0 = 0 := by decide
  have c1 : ((n : Int) == 0) = false := beq_no (by omega)
  have c2 : ((m : Int) == 0) = false := beq_no (by omega)
  have x1 := h0.1.1.c1
  have x2 := h0.1.1.c2
  have y1 := h0.1.2.1.c1
  have y2 := h0.1.2.1.c2
  have b1 : decide (e2 < e1) = false := decide_eq_false (by omega)
  clear hA hB ba bb hx hy h0 hn0 hm0
  go_enter Tryd.func59, Tryd.ntmps59
  go_wp2_with fail
  go_region_held3 (fun w' => w'.cell? ⟨w.heap.size, 0, none⟩ = some (.bool false) ∧ w'.cell? ⟨w.heap.size, 1, none⟩ = some (.slice A n c) ∧ w'.cell? ⟨w.heap.size, 2, none⟩ = some (.int .i64 e1) ∧ w'.cell? ⟨w.heap.size + 1, 0, none⟩ = some (.bool true) ∧ w'.cell? ⟨w.heap.size + 1, 1, none⟩ = some (.slice B m d) ∧ w'.cell? ⟨w.heap.size + 1, 2, none⟩ = some (.int .i64 e2) ∧ Hid (HS3 w w.heap.size false A n c ds e1 (w.heap.size + 1) true B m d es e2 (w.heap.size + 1 + 1) w'))
    (first | (with_reducible exact K0.out) | (with_reducible assumption))
    (first | (go_at_call 77; (with_reducible refine (HP1.out _ (by first | (with_reducible exact K0.out) | (with_reducible assumption))).mono ?_); rintro e w1 ⟨A6, m6, c6, ps, rfl, hm6, hY, hP6⟩) | (go_at_call 77; (with_reducible refine (HP2.out _ (by first | (with_reducible exact K0.out) | (with_reducible assumption))).mono ?_); rintro e w2 ⟨A7, m7, c7, qs, rfl, hm7, hZ, hP7⟩))
  have G1 := hP6.out.1.below hP7.out.2.2.2
  have G2 := hP7.out.1
  have HZ := Lib.hid hZ.2.2.2.2.2.2.out
  have HB := Lib.hid (And.intro hP6.out.2.1 (And.intro hP6.out.2.2.1 (And.intro hP7.out.2.1 hP7.out.2.2.1)))
  have Z0 := Lib.hid (HZ.out.below (below_drew _)).cells
  have HC : Hid (∀ u, Dig u A6 m6 c6 ps → Dig u A7 m7 c7 qs → CellsS w w.heap.size false A n c ds e1 (w.heap.size + 1) true B m d es e2 (w.heap.size + 1 + 1) u → Calls Tryd.prog 80 #[.slice A6 m6 c6, .slice A7 m7 c7] u fun e w' => ∃ (A8 : Option Addr) (m8 c8 : Nat) (rs : List Nat), e = .returned (.slice A8 m8 c8) ∧ m8 ≤ 100001 ∧ CellsS w w.heap.size false A n c ds e1 (w.heap.size + 1) true B m d es e2 (w.heap.size + 1 + 1) w' ∧ Hid (Dig w' A8 m8 c8 rs ∧ D.Bare rs ∧ D.val rs = x - y)) := fun u d1 d2 hu => by
    have h := hu.2.2.2.2.2.2.out
    refine (rsub_any A6 m6 c6 ps A7 m7 c7 qs u d1 d2 HB.out.2.2.1 (by rw [HB.out.2.1, HB.out.2.2.2]; exact ho) (by omega) (by omega)).mono ?_
    rintro e w' ⟨A8, m8, c8, rs, rfl, q1, q2, q3, q4, q5⟩
    exact ⟨A8, m8, c8, rs, rfl, by omega, (h.below q5).cells, q2, q3, by rw [q4, HB.out.2.1, HB.out.2.2.2]⟩
  obtain ⟨z, hz⟩ : ∃ z, cmpZ x y = z := ⟨_, rfl⟩
  have HR := rcmp_any A6 m6 c6 ps A7 m7 c7 qs w2 G1 G2 HB.out.1 HB.out.2.2.1 (by omega) (by omega)
  rw [HB.out.2.1, HB.out.2.2.2, hz] at HR
  have HR := Lib.hid HR
  have b3 : decide (0 ≤ z) = true := by
    rw [← hz]
    exact decide_eq_true (by have := cmpZ_bd x y; by_cases h : y < x; (rw [cmpZ_gt h]; decide); (rw [cmpZ_eq (by omega)]; decide))
  have G1h := Lib.hid G1
  have G2h := Lib.hid G2
  clear hz
  clear K0 HP1 HP2 hY hP6 hP7 c1 c2 x1 x2 y1 y2 b1 G1 G2
  obtain ⟨x0, x1, x2, y0, y1, y2, _⟩ := hZ
  go_wp2_with fail
  refine HR.out.mono ?_
  rintro e w3 ⟨rfl, nq, rfl⟩
  have Hq := Lib.hid (HZ.out.below (below_drewN (Below.refl _ _) nq))
  have Zq := Lib.hid (HZ.out.below (below_drewN (Below.refl _ _) (nq + 1))).cells
  have Zr := Lib.hid (Hq.out.below (below_drew _)).cells
  have G1q := Lib.hid (G1h.out.drewN (nq + 1))
  have G2q := Lib.hid (G2h.out.drewN (nq + 1))
  obtain ⟨v0, v1, v2, s0, s1, s2, _⟩ := Hq.out.cells
  clear x0 x1 x2 y0 y1 y2 HR HZ Z0
  go_wp2_with fail
  go_region_held3 (fun w' => w'.cell? ⟨w.heap.size, 0, none⟩ = some (.bool false))
    (first | (with_reducible exact Zq.out.1) | (with_reducible exact Zr.out.1) | (with_reducible exact Kp.out) | (with_reducible exact hX.1))
    ((go_at_call 80; (with_reducible refine (HC.out _ G1q.out G2q.out Zq.out).mono ?_); rintro e w9 ⟨A8, m8, c8, rs, rfl, hm8, hX, hP8⟩; have kb := hX.2.2.2.2.2.2.out.2; have u0 := kb.c0; have u1 := kb.c1; have u2 := kb.c2; have uf := kb.fz; have Hfin : Hid (NTold w ⟨false, x - y, e1⟩ 100001 (.returned (.agg #[.bool false, .slice A8 m8 c8, .int .i64 e1])) (World.put w9 (w.heap.size + 1 + 1) false A8 m8 c8 e1)) := ⟨A8, m8, c8, rs, rfl, hm8, kb.dig hP8.out.1 _ _ _ _ _, hP8.out.2.1, hP8.out.2.2, below_put hX.2.2.2.2.2.2.out.1.2.2.2.2 (by omega) _ _ _ _ _⟩; have hW := hX.2.2.2.2.2.2.out; have Kp : Hid (World.cell? (World.put w9 (w.heap.size + 1 + 1) false A8 m8 c8 e1) ⟨w.heap.size, 0, none⟩ = some (.bool false)) := (hW.1.1.other (by omega) _ _ _ _ _).c0; clear kb hP8 hW))
  all_goals (
    go_wp2_with fail
    exact bodyPost_ret (v := .agg #[.bool false, .slice A8 m8 c8, .int .i64 e1]) (by simp [results, Tryd.results59, go_sem, u0, u1, u2]) rfl Hfin.out)

set_option maxHeartbeats 1000000 in
theorem radd_lt_L (x y q : Nat) (A : Option Addr) (n c : Nat) (ds : List Nat) (e1 : Int) (B : Option Addr) (m d : Nat) (es : List Nat) (e2 : Int) (w : World) (hA : Dig w A n c ds) (hB : Dig w B m d es) (ba : D.Bare ds) (bb : D.Bare es) (hn : n ≤ 1000) (hm : m ≤ 1000) (hn0 : n ≠ 0) (hm0 : m ≠ 0)
    (hd : e1 - e2 = (q : Int)) (hq : q ≤ 4000) (hl : e2 < e1) (hx : Hid (D.val ds * 2 ^ q = x)) (hy : Hid (D.val es = y)) (ho : x < y) :
    Calls Tryd.prog 59 #[.agg #[.bool false, .slice A n c, .int .i64 e1], .agg #[.bool true, .slice B m d, .int .i64 e2]] w (NTold w ⟨true, y - x, e2⟩ 100001) := by
  have h0 : HS3 w w.heap.size false A n c ds e1 (w.heap.size + 1) true B m d es e2 (w.heap.size + 1 + 1) _ := HN.start3 w false A n c ds e1 true B m d es e2 hA hB
  have K0 := Lib.hid (h0.below (below_drew _)).cells
  have HP1 : Hid (∀ u, CellsS w w.heap.size false A n c ds e1 (w.heap.size + 1) true B m d es e2 (w.heap.size + 1 + 1) u → Calls Tryd.prog 77 #[.slice A n c, .int .i64 (q : Int)] u fun e w' => ∃ (A6 : Option Addr) (m6 c6 : Nat) (ps : List Nat), e = .returned (.slice A6 m6 c6) ∧ m6 ≤ 100000 ∧ CellsS w w.heap.size false A n c ds e1 (w.heap.size + 1) true B m d es e2 (w.heap.size + 1 + 1) w' ∧ Hid (Dig w' A6 m6 c6 ps ∧ D.Bare ps ∧ D.val ps = x ∧ Below u.heap.size u w')) := fun u hu => by
    have h := hu.2.2.2.2.2.2.out
    have this := rshl_any A n c ds q u h.1.2.2.1 ba (by omega) (by omega)
    rw [hx.out] at this
    refine this.mono ?_
    rintro e w' ⟨A6, m6, c6, ps, rfl, q1, q2, q3, q4, q5⟩
    exact ⟨A6, m6, c6, ps, rfl, q1, (h.below q5).cells, q2, q3, q4, q5⟩
  have HP2 : Hid (∀ u, CellsS w w.heap.size false A n c ds e1 (w.heap.size + 1) true B m d es e2 (w.heap.size + 1 + 1) u → Calls Tryd.prog 77 #[.slice B m d, .int .i64 0] u fun e w' => ∃ (A6 : Option Addr) (m6 c6 : Nat) (ps : List Nat), e = .returned (.slice A6 m6 c6) ∧ m6 ≤ 100000 ∧ CellsS w w.heap.size false A n c ds e1 (w.heap.size + 1) true B m d es e2 (w.heap.size + 1 + 1) w' ∧ Hid (Dig w' A6 m6 c6 ps ∧ D.Bare ps ∧ D.val ps = y ∧ Below u.heap.size u w')) := fun u hu => by
    have h := hu.2.2.2.2.2.2.out
    have this := rshl_any B m d es 0 u h.1.2.2.2.1 bb (by omega) (by omega)
    rw [show ((0 : Nat) : Int) = 0 from rfl, Nat.pow_zero, Nat.mul_one] at this
    rw [hy.out] at this
    refine this.mono ?_
    rintro e w' ⟨A6, m6, c6, ps, rfl, q1, q2, q3, q4, q5⟩
    exact ⟨A6, m6, c6, ps, rfl, q1, (h.below q5).cells, q2, q3, q4, q5⟩
  have hwq : IntKind.i64.wrap (q : Int) = (q : Int) := by rw [IntKind.wrap_i64]; omega
  have hw0 : IntKind.i64.wrap 0 = 0 := by decide
  have c1 : ((n : Int) == 0) = false := beq_no (by omega)
  have c2 : ((m : Int) == 0) = false := beq_no (by omega)
  have x1 := h0.1.1.c1
  have x2 := h0.1.1.c2
  have y1 := h0.1.2.1.c1
  have y2 := h0.1.2.1.c2
  have b1 : decide (e2 < e1) = true := decide_eq_true hl
  clear hA hB ba bb hx hy h0 hl hn0 hm0
  go_enter Tryd.func59, Tryd.ntmps59
  go_wp2_with fail
  go_region_held3 (fun w' => w'.cell? ⟨w.heap.size, 0, none⟩ = some (.bool false) ∧ w'.cell? ⟨w.heap.size, 1, none⟩ = some (.slice A n c) ∧ w'.cell? ⟨w.heap.size, 2, none⟩ = some (.int .i64 e1) ∧ w'.cell? ⟨w.heap.size + 1, 0, none⟩ = some (.bool true) ∧ w'.cell? ⟨w.heap.size + 1, 1, none⟩ = some (.slice B m d) ∧ w'.cell? ⟨w.heap.size + 1, 2, none⟩ = some (.int .i64 e2) ∧ Hid (HS3 w w.heap.size false A n c ds e1 (w.heap.size + 1) true B m d es e2 (w.heap.size + 1 + 1) w'))
    (first | (with_reducible exact K0.out) | (with_reducible assumption))
    (first | (go_at_call 77; (with_reducible refine (HP1.out _ (by first | (with_reducible exact K0.out) | (with_reducible assumption))).mono ?_); rintro e w1 ⟨A6, m6, c6, ps, rfl, hm6, hY, hP6⟩) | (go_at_call 77; (with_reducible refine (HP2.out _ (by first | (with_reducible exact K0.out) | (with_reducible assumption))).mono ?_); rintro e w2 ⟨A7, m7, c7, qs, rfl, hm7, hZ, hP7⟩))
  have G1 := hP6.out.1.below hP7.out.2.2.2
  have G2 := hP7.out.1
  have HZ := Lib.hid hZ.2.2.2.2.2.2.out
  have HB := Lib.hid (And.intro hP6.out.2.1 (And.intro hP6.out.2.2.1 (And.intro hP7.out.2.1 hP7.out.2.2.1)))
  have Z0 := Lib.hid (HZ.out.below (below_drew _)).cells
  have HC : Hid (∀ u, Dig u A6 m6 c6 ps → Dig u A7 m7 c7 qs → CellsS w w.heap.size false A n c ds e1 (w.heap.size + 1) true B m d es e2 (w.heap.size + 1 + 1) u → Calls Tryd.prog 80 #[.slice A7 m7 c7, .slice A6 m6 c6] u fun e w' => ∃ (A8 : Option Addr) (m8 c8 : Nat) (rs : List Nat), e = .returned (.slice A8 m8 c8) ∧ m8 ≤ 100001 ∧ CellsS w w.heap.size false A n c ds e1 (w.heap.size + 1) true B m d es e2 (w.heap.size + 1 + 1) w' ∧ Hid (Dig w' A8 m8 c8 rs ∧ D.Bare rs ∧ D.val rs = y - x)) := fun u d1 d2 hu => by
    have h := hu.2.2.2.2.2.2.out
    refine (rsub_any A7 m7 c7 qs A6 m6 c6 ps u d2 d1 HB.out.1 (by rw [HB.out.2.1, HB.out.2.2.2]; omega) (by omega) (by omega)).mono ?_
    rintro e w' ⟨A8, m8, c8, rs, rfl, q1, q2, q3, q4, q5⟩
    exact ⟨A8, m8, c8, rs, rfl, by omega, (h.below q5).cells, q2, q3, by rw [q4, HB.out.2.1, HB.out.2.2.2]⟩
  obtain ⟨z, hz⟩ : ∃ z, cmpZ x y = z := ⟨_, rfl⟩
  have HR := rcmp_any A6 m6 c6 ps A7 m7 c7 qs w2 G1 G2 HB.out.1 HB.out.2.2.1 (by omega) (by omega)
  rw [HB.out.2.1, HB.out.2.2.2, hz] at HR
  have HR := Lib.hid HR
  have b3 : decide (0 ≤ z) = false := by
    rw [← hz]
    rw [cmpZ_lt ho]; rfl
  have G1h := Lib.hid G1
  have G2h := Lib.hid G2
  clear hz
  clear K0 HP1 HP2 hY hP6 hP7 c1 c2 x1 x2 y1 y2 b1 G1 G2
  obtain ⟨x0, x1, x2, y0, y1, y2, _⟩ := hZ
  go_wp2_with fail
  refine HR.out.mono ?_
  rintro e w3 ⟨rfl, nq, rfl⟩
  have Hq := Lib.hid (HZ.out.below (below_drewN (Below.refl _ _) nq))
  have Zq := Lib.hid (HZ.out.below (below_drewN (Below.refl _ _) (nq + 1))).cells
  have Zr := Lib.hid (Hq.out.below (below_drew _)).cells
  have G1q := Lib.hid (G1h.out.drewN (nq + 1))
  have G2q := Lib.hid (G2h.out.drewN (nq + 1))
  obtain ⟨v0, v1, v2, s0, s1, s2, _⟩ := Hq.out.cells
  clear x0 x1 x2 y0 y1 y2 HR HZ Z0
  go_wp2_with fail
  go_region_held3 (fun w' => w'.cell? ⟨w.heap.size + 1, 0, none⟩ = some (.bool true))
    (first | (with_reducible exact Zq.out.2.2.2.1) | (with_reducible exact Zr.out.2.2.2.1) | (with_reducible exact Kp.out) | (with_reducible exact hX.2.2.2.1))
    ((go_at_call 80; (with_reducible refine (HC.out _ G1q.out G2q.out Zq.out).mono ?_); rintro e w9 ⟨A8, m8, c8, rs, rfl, hm8, hX, hP8⟩; have kb := hX.2.2.2.2.2.2.out.2; have u0 := kb.c0; have u1 := kb.c1; have u2 := kb.c2; have uf := kb.fz; have Hfin : Hid (NTold w ⟨true, y - x, e2⟩ 100001 (.returned (.agg #[.bool true, .slice A8 m8 c8, .int .i64 e2])) (World.put w9 (w.heap.size + 1 + 1) true A8 m8 c8 e2)) := ⟨A8, m8, c8, rs, rfl, hm8, kb.dig hP8.out.1 _ _ _ _ _, hP8.out.2.1, hP8.out.2.2, below_put hX.2.2.2.2.2.2.out.1.2.2.2.2 (by omega) _ _ _ _ _⟩; have hW := hX.2.2.2.2.2.2.out; have Kp : Hid (World.cell? (World.put w9 (w.heap.size + 1 + 1) true A8 m8 c8 e2) ⟨w.heap.size + 1, 0, none⟩ = some (.bool true)) := (hW.1.2.1.other (by omega) _ _ _ _ _).c0; clear kb hP8 hW))
  all_goals (
    go_wp2_with fail
    exact bodyPost_ret (v := .agg #[.bool true, .slice A8 m8 c8, .int .i64 e2]) (by simp [results, Tryd.results59, go_sem, u0, u1, u2]) rfl Hfin.out)

set_option maxHeartbeats 1000000 in
theorem radd_lt_G (x y q : Nat) (A : Option Addr) (n c : Nat) (ds : List Nat) (e1 : Int) (B : Option Addr) (m d : Nat) (es : List Nat) (e2 : Int) (w : World) (hA : Dig w A n c ds) (hB : Dig w B m d es) (ba : D.Bare ds) (bb : D.Bare es) (hn : n ≤ 1000) (hm : m ≤ 1000) (hn0 : n ≠ 0) (hm0 : m ≠ 0)
    (hd : e2 - e1 = (q : Int)) (hq : q ≤ 4000) (hx : Hid (D.val ds = x)) (hy : Hid (D.val es * 2 ^ q = y)) (ho : x < y) :
    Calls Tryd.prog 59 #[.agg #[.bool false, .slice A n c, .int .i64 e1], .agg #[.bool true, .slice B m d, .int .i64 e2]] w (NTold w ⟨true, y - x, e1⟩ 100001) := by
  have h0 : HS3 w w.heap.size false A n c ds e1 (w.heap.size + 1) true B m d es e2 (w.heap.size + 1 + 1) _ := HN.start3 w false A n c ds e1 true B m d es e2 hA hB
  have K0 := Lib.hid (h0.below (below_drew _)).cells
  have HP1 : Hid (∀ u, CellsS w w.heap.size false A n c ds e1 (w.heap.size + 1) true B m d es e2 (w.heap.size + 1 + 1) u → Calls Tryd.prog 77 #[.slice A n c, .int .i64 0] u fun e w' => ∃ (A6 : Option Addr) (m6 c6 : Nat) (ps : List Nat), e = .returned (.slice A6 m6 c6) ∧ m6 ≤ 100000 ∧ CellsS w w.heap.size false A n c ds e1 (w.heap.size + 1) true B m d es e2 (w.heap.size + 1 + 1) w' ∧ Hid (Dig w' A6 m6 c6 ps ∧ D.Bare ps ∧ D.val ps = x ∧ Below u.heap.size u w')) := fun u hu => by
    have h := hu.2.2.2.2.2.2.out
    have this := rshl_any A n c ds 0 u h.1.2.2.1 ba (by omega) (by omega)
    rw [show ((0 : Nat) : Int) = 0 from rfl, Nat.pow_zero, Nat.mul_one] at this
    rw [hx.out] at this
    refine this.mono ?_
    rintro e w' ⟨A6, m6, c6, ps, rfl, q1, q2, q3, q4, q5⟩
    exact ⟨A6, m6, c6, ps, rfl, q1, (h.below q5).cells, q2, q3, q4, q5⟩
  have HP2 : Hid (∀ u, CellsS w w.heap.size false A n c ds e1 (w.heap.size + 1) true B m d es e2 (w.heap.size + 1 + 1) u → Calls Tryd.prog 77 #[.slice B m d, .int .i64 (q : Int)] u fun e w' => ∃ (A6 : Option Addr) (m6 c6 : Nat) (ps : List Nat), e = .returned (.slice A6 m6 c6) ∧ m6 ≤ 100000 ∧ CellsS w w.heap.size false A n c ds e1 (w.heap.size + 1) true B m d es e2 (w.heap.size + 1 + 1) w' ∧ Hid (Dig w' A6 m6 c6 ps ∧ D.Bare ps ∧ D.val ps = y ∧ Below u.heap.size u w')) := fun u hu => by
    have h := hu.2.2.2.2.2.2.out
    have this := rshl_any B m d es q u h.1.2.2.2.1 bb (by omega) (by omega)
    rw [hy.out] at this
    refine this.mono ?_
    rintro e w' ⟨A6, m6, c6, ps, rfl, q1, q2, q3, q4, q5⟩
    exact ⟨A6, m6, c6, ps, rfl, q1, (h.below q5).cells, q2, q3, q4, q5⟩
  have hwq : IntKind.i64.wrap (q : Int) = (q : Int) := by rw [IntKind.wrap_i64]; omega
  have hw0 : IntKind.i64.wrap 0 = 0 := by decide
  have c1 : ((n : Int) == 0) = false := beq_no (by omega)
  have c2 : ((m : Int) == 0) = false := beq_no (by omega)
  have x1 := h0.1.1.c1
  have x2 := h0.1.1.c2
  have y1 := h0.1.2.1.c1
  have y2 := h0.1.2.1.c2
  have b1 : decide (e2 < e1) = false := decide_eq_false (by omega)
  clear hA hB ba bb hx hy h0 hn0 hm0
  go_enter Tryd.func59, Tryd.ntmps59
  go_wp2_with fail
  go_region_held3 (fun w' => w'.cell? ⟨w.heap.size, 0, none⟩ = some (.bool false) ∧ w'.cell? ⟨w.heap.size, 1, none⟩ = some (.slice A n c) ∧ w'.cell? ⟨w.heap.size, 2, none⟩ = some (.int .i64 e1) ∧ w'.cell? ⟨w.heap.size + 1, 0, none⟩ = some (.bool true) ∧ w'.cell? ⟨w.heap.size + 1, 1, none⟩ = some (.slice B m d) ∧ w'.cell? ⟨w.heap.size + 1, 2, none⟩ = some (.int .i64 e2) ∧ Hid (HS3 w w.heap.size false A n c ds e1 (w.heap.size + 1) true B m d es e2 (w.heap.size + 1 + 1) w'))
    (first | (with_reducible exact K0.out) | (with_reducible assumption))
    (first | (go_at_call 77; (with_reducible refine (HP1.out _ (by first | (with_reducible exact K0.out) | (with_reducible assumption))).mono ?_); rintro e w1 ⟨A6, m6, c6, ps, rfl, hm6, hY, hP6⟩) | (go_at_call 77; (with_reducible refine (HP2.out _ (by first | (with_reducible exact K0.out) | (with_reducible assumption))).mono ?_); rintro e w2 ⟨A7, m7, c7, qs, rfl, hm7, hZ, hP7⟩))
  have G1 := hP6.out.1.below hP7.out.2.2.2
  have G2 := hP7.out.1
  have HZ := Lib.hid hZ.2.2.2.2.2.2.out
  have HB := Lib.hid (And.intro hP6.out.2.1 (And.intro hP6.out.2.2.1 (And.intro hP7.out.2.1 hP7.out.2.2.1)))
  have Z0 := Lib.hid (HZ.out.below (below_drew _)).cells
  have HC : Hid (∀ u, Dig u A6 m6 c6 ps → Dig u A7 m7 c7 qs → CellsS w w.heap.size false A n c ds e1 (w.heap.size + 1) true B m d es e2 (w.heap.size + 1 + 1) u → Calls Tryd.prog 80 #[.slice A7 m7 c7, .slice A6 m6 c6] u fun e w' => ∃ (A8 : Option Addr) (m8 c8 : Nat) (rs : List Nat), e = .returned (.slice A8 m8 c8) ∧ m8 ≤ 100001 ∧ CellsS w w.heap.size false A n c ds e1 (w.heap.size + 1) true B m d es e2 (w.heap.size + 1 + 1) w' ∧ Hid (Dig w' A8 m8 c8 rs ∧ D.Bare rs ∧ D.val rs = y - x)) := fun u d1 d2 hu => by
    have h := hu.2.2.2.2.2.2.out
    refine (rsub_any A7 m7 c7 qs A6 m6 c6 ps u d2 d1 HB.out.1 (by rw [HB.out.2.1, HB.out.2.2.2]; omega) (by omega) (by omega)).mono ?_
    rintro e w' ⟨A8, m8, c8, rs, rfl, q1, q2, q3, q4, q5⟩
    exact ⟨A8, m8, c8, rs, rfl, by omega, (h.below q5).cells, q2, q3, by rw [q4, HB.out.2.1, HB.out.2.2.2]⟩
  obtain ⟨z, hz⟩ : ∃ z, cmpZ x y = z := ⟨_, rfl⟩
  have HR := rcmp_any A6 m6 c6 ps A7 m7 c7 qs w2 G1 G2 HB.out.1 HB.out.2.2.1 (by omega) (by omega)
  rw [HB.out.2.1, HB.out.2.2.2, hz] at HR
  have HR := Lib.hid HR
  have b3 : decide (0 ≤ z) = false := by
    rw [← hz]
    rw [cmpZ_lt ho]; rfl
  have G1h := Lib.hid G1
  have G2h := Lib.hid G2
  clear hz
  clear K0 HP1 HP2 hY hP6 hP7 c1 c2 x1 x2 y1 y2 b1 G1 G2
  obtain ⟨x0, x1, x2, y0, y1, y2, _⟩ := hZ
  go_wp2_with fail
  refine HR.out.mono ?_
  rintro e w3 ⟨rfl, nq, rfl⟩
  have Hq := Lib.hid (HZ.out.below (below_drewN (Below.refl _ _) nq))
  have Zq := Lib.hid (HZ.out.below (below_drewN (Below.refl _ _) (nq + 1))).cells
  have Zr := Lib.hid (Hq.out.below (below_drew _)).cells
  have G1q := Lib.hid (G1h.out.drewN (nq + 1))
  have G2q := Lib.hid (G2h.out.drewN (nq + 1))
  obtain ⟨v0, v1, v2, s0, s1, s2, _⟩ := Hq.out.cells
  clear x0 x1 x2 y0 y1 y2 HR HZ Z0
  go_wp2_with fail
  go_region_held3 (fun w' => w'.cell? ⟨w.heap.size + 1, 0, none⟩ = some (.bool true))
    (first | (with_reducible exact Zq.out.2.2.2.1) | (with_reducible exact Zr.out.2.2.2.1) | (with_reducible exact Kp.out) | (with_reducible exact hX.2.2.2.1))
    ((go_at_call 80; (with_reducible refine (HC.out _ G1q.out G2q.out Zq.out).mono ?_); rintro e w9 ⟨A8, m8, c8, rs, rfl, hm8, hX, hP8⟩; have kb := hX.2.2.2.2.2.2.out.2; have u0 := kb.c0; have u1 := kb.c1; have u2 := kb.c2; have uf := kb.fz; have Hfin : Hid (NTold w ⟨true, y - x, e1⟩ 100001 (.returned (.agg #[.bool true, .slice A8 m8 c8, .int .i64 e1])) (World.put w9 (w.heap.size + 1 + 1) true A8 m8 c8 e1)) := ⟨A8, m8, c8, rs, rfl, hm8, kb.dig hP8.out.1 _ _ _ _ _, hP8.out.2.1, hP8.out.2.2, below_put hX.2.2.2.2.2.2.out.1.2.2.2.2 (by omega) _ _ _ _ _⟩; have hW := hX.2.2.2.2.2.2.out; have Kp : Hid (World.cell? (World.put w9 (w.heap.size + 1 + 1) true A8 m8 c8 e1) ⟨w.heap.size + 1, 0, none⟩ = some (.bool true)) := (hW.1.2.1.other (by omega) _ _ _ _ _).c0; clear kb hP8 hW))
  all_goals (
    go_wp2_with fail
    exact bodyPost_ret (v := .agg #[.bool true, .slice A8 m8 c8, .int .i64 e1]) (by simp [results, Tryd.results59, go_sem, u0, u1, u2]) rfl Hfin.out)

end Go.Proofs.YtgacafdkhailmaaDoor

/- The document's numbers: planimeterref05.Cmp of two that aren't below 0, the second one above it. -/
namespace Go.Proofs.YtgacafdkhailmaaDoor
open Go.RowKit

section
variable {w : World} {b t : Nat} {g : Bool} {A : Option Addr} {n c : Nat} {e : Int}
theorem neg_heap (w : World) (b : Nat) (v : Value) (k : Nat) (hk : k ≠ b) : (w.setCell ⟨b, 0, none⟩ v).heap[k]? = w.heap[k]? := Below.heap_setCell _ _ _ _ hk
theorem neg_size (w : World) (b : Nat) (v : Value) : (w.setCell ⟨b, 0, none⟩ v).heap.size = w.heap.size := by simp [World.setCell]
theorem Bd.neg_ (h : Bd w b t g A n c e) (g' : Bool) : Bd (w.setCell ⟨b, 0, none⟩ (.bool g')) b t g' A n c e := by
  unfold Bd at h ⊢
  simp [World.setCell, Array.getElem?_modify, h]
theorem Bd.neg_other (h : Bd w b t g A n c e) {b' : Nat} (hb : b ≠ b') (v : Value) : Bd (w.setCell ⟨b', 0, none⟩ v) b t g A n c e := by
  unfold Bd; rw [neg_heap _ _ _ _ hb]; exact h
theorem Bd.neg_dig (h : Bd w b t g A n c e) {A1 : Option Addr} {n1 c1 : Nat} {ds : List Nat} (hA : Dig w A1 n1 c1 ds) (v : Value) : Dig (w.setCell ⟨b, 0, none⟩ v) A1 n1 c1 ds :=
  ⟨⟨hA.1.1, hA.1.2.1, fun hn => by
    obtain ⟨k, o, ek, hk, hc⟩ := hA.at_ hn
    have hne : k ≠ b := by
      rintro rfl
      have := h.not (hc 0 hn)
      cases this
    exact ⟨k, o, ek, by rw [neg_size]; exact hk, fun j hj => by rw [World.cell?_of_block (w := w) (neg_heap w b v k hne)]; exact hc j hj⟩⟩, hA.2⟩
end

theorem sz_both {V U q : Nat} {e1 e2 : Int} (h1 : -1073741824 ≤ e2) (h2 : e1 ≤ 1073741824) (hq : e1 - e2 = (q : Int)) : cmpZ (sz V e1) (sz U e2) = cmpZ (V * 2 ^ q) U := by
  have hh : held e1 = held e2 + q := by rw [held_id (by omega) h2, held_id h1 (by omega)]; omega
  rw [sz_shift hh]
  unfold sz
  exact cmpZ_times (Nat.two_pow_pos _)
theorem cmpZ_anti (x y : Nat) : cmpZ y x = - cmpZ x y := by
  rcases Nat.lt_trichotomy x y with h | h | h
  · rw [cmpZ_gt h, cmpZ_lt h]; rfl
  · rw [cmpZ_eq h, cmpZ_eq h.symm]; rfl
  · rw [cmpZ_lt h, cmpZ_gt h]
theorem sgD_ge {x y : Nat} (h : y ≤ x) : sgD false (x - y) = cmpZ x y := by
  unfold sgD
  by_cases he : x = y
  · rw [if_pos (by omega), cmpZ_eq he]
  · rw [if_neg (by omega), cmpZ_gt (by omega)]; rfl
theorem sgD_lt {x y : Nat} (h : x < y) : sgD true (y - x) = cmpZ x y := by
  unfold sgD
  rw [if_neg (by omega), cmpZ_lt h]; rfl

/-- One less another: its sign tells the order. -/
theorem radd_less (v : Int) (A : Option Addr) (n c : Nat) (ds : List Nat) (e1 : Int) (B : Option Addr) (m d : Nat) (es : List Nat) (e2 : Int) (w : World) (hA : Dig w A n c ds) (hB : Dig w B m d es) (ba : D.Bare ds) (bb : D.Bare es) (hn : n ≤ 1000) (hm : m ≤ 1000) (hn0 : n ≠ 0) (hm0 : m ≠ 0)
    (h1 : -1073741824 ≤ e1) (h2 : e1 ≤ 1073741824) (h3 : -1073741824 ≤ e2) (h4 : e2 ≤ 1073741824) (h5 : e1 ≤ e2 + 4000) (h6 : e2 ≤ e1 + 4000) (hv : cmpZ (sz (D.val ds) e1) (sz (D.val es) e2) = v) :
    Calls Tryd.prog 59 #[.agg #[.bool false, .slice A n c, .int .i64 e1], .agg #[.bool true, .slice B m d, .int .i64 e2]] w fun e w' => ∃ (o : Dy), NTold w o 100001 e w' ∧ sgD o.neg o.V = v := by
  by_cases hl : e2 < e1
  · obtain ⟨q, hq⟩ : ∃ q : Nat, e1 - e2 = (q : Int) := ⟨(e1 - e2).toNat, by omega⟩
    rw [sz_both h3 h2 hq] at hv
    obtain ⟨x, hx⟩ : ∃ x, D.val ds * 2 ^ q = x := ⟨_, rfl⟩
    obtain ⟨y, hy⟩ : ∃ y, D.val es = y := ⟨_, rfl⟩
    rw [hx, hy] at hv
    rcases Nat.lt_or_ge x y with ho | ho
    · refine (radd_lt_L x y q A n c ds e1 B m d es e2 w hA hB ba bb hn hm hn0 hm0 hq (by omega) hl hx hy ho).mono fun e w' h => ⟨_, h, by rw [← hv]; exact sgD_lt ho⟩
    · refine (radd_ge_L x y q A n c ds e1 B m d es e2 w hA hB ba bb hn hm hn0 hm0 hq (by omega) hl hx hy ho).mono fun e w' h => ⟨_, h, by rw [← hv]; exact sgD_ge ho⟩
  · obtain ⟨q, hq⟩ : ∃ q : Nat, e2 - e1 = (q : Int) := ⟨(e2 - e1).toNat, by omega⟩
    have hv2 : cmpZ (D.val ds) (D.val es * 2 ^ q) = v := by
      rw [cmpZ_anti, sz_both h1 h4 hq] at hv
      rw [cmpZ_anti]; exact hv
    obtain ⟨x, hx⟩ : ∃ x, D.val ds = x := ⟨_, rfl⟩
    obtain ⟨y, hy⟩ : ∃ y, D.val es * 2 ^ q = y := ⟨_, rfl⟩
    rw [hx, hy] at hv2
    rcases Nat.lt_or_ge x y with ho | ho
    · refine (radd_lt_G x y q A n c ds e1 B m d es e2 w hA hB ba bb hn hm hn0 hm0 hq (by omega) hx hy ho).mono fun e w' h => ⟨_, h, by rw [← hv2]; exact sgD_lt ho⟩
    · refine (radd_ge_G x y q A n c ds e1 B m d es e2 w hA hB ba bb hn hm hn0 hm0 hq (by omega) hx hy ho).mono fun e w' h => ⟨_, h, by rw [← hv2]; exact sgD_ge ho⟩

set_option maxHeartbeats 2000000 in
theorem rncmp_l (v : Int) (A : Option Addr) (n c : Nat) (ds : List Nat) (e1 : Int) (B : Option Addr) (m d : Nat) (es : List Nat) (e2 : Int) (w : World) (hA : Dig w A n c ds) (hB : Dig w B m d es) (ba : D.Bare ds) (bb : D.Bare es) (hn : n ≤ 240) (hm : m ≤ 240) (hU : D.val es ≠ 0)
    (h1 : -1073741824 ≤ e1) (h2 : e1 ≤ 1073741824) (h3 : -1073741824 ≤ e2) (h4 : e2 ≤ 1073741824) (hv : Hid (cmpZ (sz (D.val ds) e1) (sz (D.val es) e2) = v)) :
    Calls Tryd.prog 44 #[.agg #[.bool false, .slice A n c, .int .i64 e1], .agg #[.bool false, .slice B m d, .int .i64 e2]] w fun e w' => e = .returned (.int .i64 v) ∧ Below w.heap.size w w' := by
  obtain ⟨s1, hs1⟩ : ∃ s, sgD false (D.val ds) = s := ⟨_, rfl⟩
  have hs2 : sgD false (D.val es) = 1 := by unfold sgD; rw [if_neg hU]; rfl
  have H0 := Lib.hid ((HN.start w false A n c ds e1 false B m d es e2 hA hB).below (below_drew _))
  have HS1 : Hid (∀ u, CellsN w w.heap.size false A n c ds e1 (w.heap.size + 1) false B m d es e2 u → Calls Tryd.prog 66 #[.agg #[.bool false, .slice A n c, .int .i64 e1]] u fun e w' => e = .returned (.int .i64 s1) ∧ CellsN w w.heap.size false A n c ds e1 (w.heap.size + 1) false B m d es e2 w') := fun u hu => by
    have h := hu.2.2.2.2.2.2.out
    refine (rsign_l s1 false A n c ds e1 u h.2.2.1 ba hs1).mono ?_
    rintro e w' ⟨rfl, hb⟩
    exact ⟨rfl, (h.below hb).cells⟩
  have HS2 : Hid (∀ u, CellsN w w.heap.size false A n c ds e1 (w.heap.size + 1) false B m d es e2 u → Calls Tryd.prog 66 #[.agg #[.bool false, .slice B m d, .int .i64 e2]] u fun e w' => e = .returned (.int .i64 1) ∧ CellsN w w.heap.size false A n c ds e1 (w.heap.size + 1) false B m d es e2 w') := fun u hu => by
    have h := hu.2.2.2.2.2.2.out
    refine (rsign_l 1 false B m d es e2 u h.2.2.2.1 bb hs2).mono ?_
    rintro e w' ⟨rfl, hb⟩
    exact ⟨rfl, (h.below hb).cells⟩
  have hz := dnil_iff hA ba
  have hz2 := dnil_iff hB bb
  have lt1 := D.val_lt hA.words
  have lt2 := D.val_lt hB.words
  rw [hA.len, D.pw_two] at lt1
  rw [hB.len, D.pw_two] at lt2
  have bl1 := blen_le_iff.2 lt1
  have bl2 := blen_le_iff.2 lt2
  have hv' := hv.out
  have HBA := Lib.hid ba
  have HBB := Lib.hid bb
  clear hA hB ba bb lt1 lt2 hs2 hv
  by_cases hV : D.val ds = 0
  · obtain rfl : s1 = 0 := by rw [← hs1, hV]; rfl
    obtain rfl : v = -1 := by
      rw [← hv', hV, sz_zero, cmpZ_lt (sz_pos e2 hU)]
    clear hs1 hv' hz hz2 bl1 bl2 hV hU
    go_enter Tryd.func44, Tryd.ntmps44
    go_wp2_with fail
    go_region_held3 (fun w' => w'.cell? ⟨w.heap.size, 0, none⟩ = some (.bool false) ∧ w'.cell? ⟨w.heap.size, 1, none⟩ = some (.slice A n c) ∧ w'.cell? ⟨w.heap.size, 2, none⟩ = some (.int .i64 e1) ∧ w'.cell? ⟨w.heap.size + 1, 0, none⟩ = some (.bool false) ∧ w'.cell? ⟨w.heap.size + 1, 1, none⟩ = some (.slice B m d) ∧ w'.cell? ⟨w.heap.size + 1, 2, none⟩ = some (.int .i64 e2) ∧ Hid (HN w w.heap.size false A n c ds e1 (w.heap.size + 1) false B m d es e2 w'))
      (first | (with_reducible exact H0.out.cells) | (with_reducible assumption))
      (first | (go_at_call 66; (with_reducible refine (HS1.out _ (by with_reducible assumption)).mono ?_); rintro e w1 ⟨rfl, hY⟩) | (go_at_call 66; (with_reducible refine (HS2.out _ (by with_reducible assumption)).mono ?_); rintro e w2 ⟨rfl, hZ⟩))
    have HF := Lib.hid hZ.2.2.2.2.2.2.out.2.2.2.2
    clear hY hZ HS1 HS2 H0
    go_wp2_with fail
    go_ret
    exact ⟨rfl, HF.out⟩
  · obtain rfl : s1 = 1 := by rw [← hs1]; unfold sgD; rw [if_neg hV]; rfl
    have hn0 : n ≠ 0 := fun h => hV (hz.1 h)
    have hm0 : m ≠ 0 := fun h => hU (hz2.1 h)
    have B1 := blen_pos hV
    have B2 := blen_pos hU
    obtain ⟨t1, ht1⟩ : ∃ t, rtop (D.val ds) e1 = t := ⟨_, rfl⟩
    obtain ⟨t2, ht2⟩ : ∃ t, rtop (D.val es) e2 = t := ⟨_, rfl⟩
    have HT1 : Hid (∀ u, CellsN w w.heap.size false A n c ds e1 (w.heap.size + 1) false B m d es e2 u → Calls Tryd.prog 67 #[.agg #[.bool false, .slice A n c, .int .i64 e1]] u fun e w' => e = .returned (.int .i64 t1) ∧ CellsN w w.heap.size false A n c ds e1 (w.heap.size + 1) false B m d es e2 w') := fun u hu => by
      have h := hu.2.2.2.2.2.2.out
      refine (rtop_l t1 false A n c ds e1 u h.2.2.1 HBA.out (by omega) (by omega) (by omega) ht1).mono ?_
      rintro e w' ⟨rfl, hb⟩
      exact ⟨rfl, (h.below hb).cells⟩
    have HT2 : Hid (∀ u, CellsN w w.heap.size false A n c ds e1 (w.heap.size + 1) false B m d es e2 u → Calls Tryd.prog 67 #[.agg #[.bool false, .slice B m d, .int .i64 e2]] u fun e w' => e = .returned (.int .i64 t2) ∧ CellsN w w.heap.size false A n c ds e1 (w.heap.size + 1) false B m d es e2 w') := fun u hu => by
      have h := hu.2.2.2.2.2.2.out
      refine (rtop_l t2 false B m d es e2 u h.2.2.2.1 HBB.out (by omega) (by omega) (by omega) ht2).mono ?_
      rintro e w' ⟨rfl, hb⟩
      exact ⟨rfl, (h.below hb).cells⟩
    have htt : t1 ≠ t2 → cmpI t1 t2 = v := fun h => by
      have e1' : topD (D.val ds) e1 = t1 := by unfold topD; rw [held_id h1 h2]; exact ht1
      have e2' : topD (D.val es) e2 = t2 := by unfold topD; rw [held_id h3 h4]; exact ht2
      have := cmp_tops (e := e1) (f := e2) hV hU (by rw [e1', e2']; exact h)
      rw [e1', e2'] at this
      rw [this, hv']
    have hnear : t1 = t2 → e1 ≤ e2 + 4000 ∧ e2 ≤ e1 + 4000 := fun h => by
      unfold rtop at ht1 ht2
      omega
    have Hv := Lib.hid hv'
    clear hs1 hv' hz hz2 hV hU ht1 ht2
    go_enter Tryd.func44, Tryd.ntmps44
    go_wp2_with fail
    go_region_held3 (fun w' => w'.cell? ⟨w.heap.size, 0, none⟩ = some (.bool false) ∧ w'.cell? ⟨w.heap.size, 1, none⟩ = some (.slice A n c) ∧ w'.cell? ⟨w.heap.size, 2, none⟩ = some (.int .i64 e1) ∧ w'.cell? ⟨w.heap.size + 1, 0, none⟩ = some (.bool false) ∧ w'.cell? ⟨w.heap.size + 1, 1, none⟩ = some (.slice B m d) ∧ w'.cell? ⟨w.heap.size + 1, 2, none⟩ = some (.int .i64 e2) ∧ Hid (HN w w.heap.size false A n c ds e1 (w.heap.size + 1) false B m d es e2 w'))
      (first | (with_reducible exact H0.out.cells) | (with_reducible assumption))
      (first | (go_at_call 66; (with_reducible refine (HS1.out _ (by with_reducible assumption)).mono ?_); rintro e w1 ⟨rfl, hY⟩) | (go_at_call 66; (with_reducible refine (HS2.out _ (by with_reducible assumption)).mono ?_); rintro e w2 ⟨rfl, hZ⟩))
    have K0 := Lib.hid (hZ.2.2.2.2.2.2.out.below (below_drew _)).cells
    clear hY hZ HS1 HS2 H0
    go_wp2_with fail
    go_region_held3 (fun w' => w'.cell? ⟨w.heap.size, 0, none⟩ = some (.bool false) ∧ w'.cell? ⟨w.heap.size, 1, none⟩ = some (.slice A n c) ∧ w'.cell? ⟨w.heap.size, 2, none⟩ = some (.int .i64 e1) ∧ w'.cell? ⟨w.heap.size + 1, 0, none⟩ = some (.bool false) ∧ w'.cell? ⟨w.heap.size + 1, 1, none⟩ = some (.slice B m d) ∧ w'.cell? ⟨w.heap.size + 1, 2, none⟩ = some (.int .i64 e2) ∧ Hid (HN w w.heap.size false A n c ds e1 (w.heap.size + 1) false B m d es e2 w'))
      (first | (with_reducible exact K0.out) | (with_reducible assumption))
      (first | (go_at_call 67; (with_reducible refine (HT1.out _ (by first | (with_reducible exact K0.out) | (with_reducible assumption))).mono ?_); rintro e w3 ⟨rfl, hY⟩) | (go_at_call 67; (with_reducible refine (HT2.out _ (by with_reducible assumption)).mono ?_); rintro e w4 ⟨rfl, hZ⟩))
    have K4 := Lib.hid (hZ.2.2.2.2.2.2.out.below (below_drew _)).cells
    have H4 := Lib.hid hZ.2.2.2.2.2.2.out
    obtain ⟨x0, x1, x2, y0, y1, y2, _⟩ := hZ
    clear hY K0
    by_cases hq : t1 = t2
    · obtain ⟨hq1, hq2⟩ := hnear hq
      have c1 : (t1 != t2) = false := bne_no hq
      have j1 := H4.out.1.neg_other (b' := w.heap.size + 1) (by omega) (.bool true)
      have j2 := H4.out.2.1.neg_ true
      have j3 := H4.out.2.1.neg_dig H4.out.2.2.1 (.bool true)
      have j4 := H4.out.2.1.neg_dig H4.out.2.2.2.1 (.bool true)
      have j5 := H4.out.2.2.2.2.setCell (p := ⟨w.heap.size + 1, 0, none⟩) (by show w.heap.size ≤ w.heap.size + 1; omega) (.bool true)
      have yf := H4.out.2.1.fz
      have HA := Lib.hid (radd_less v A n c ds e1 B m d es e2 _ j3 j4 HBA.out HBB.out (by omega) (by omega) hn0 hm0 h1 h2 h3 h4 hq1 hq2 Hv.out)
      have HJ := Lib.hid j5
      clear j1 j2 j3 j4 j5 H4 K4 htt hnear hq hq1 hq2 Hv HT1 HT2 HBA HBB bl1 bl2 B1 B2 hn0 hm0
      go_wp2_with fail
      refine HA.out.mono ?_
      rintro e w5 ⟨⟨og, oV, oE⟩, ⟨A5, m5, c5, rs, rfl, hm5, hl5, hd5, hv5, hb5⟩, hs⟩
      have HG := Lib.hid (rsign_l v og A5 m5 c5 rs oE w5 hl5 hd5 (by rw [hv5]; exact hs))
      have HS5 := Lib.hid (HJ.out.trans (hb5.mono HJ.out.size))
      clear hl5 hd5 hv5 hb5 hs HA HJ x0 x1 x2 y0 y1 y2 yf
      go_wp2_with fail
      refine HG.out.mono ?_
      rintro e w6 ⟨rfl, hb6⟩
      have Hfin := Lib.hid (HS5.out.trans (hb6.mono HS5.out.size))
      clear hb6 HS5 HG
      go_wp2
      go_ret
      exact ⟨rfl, Hfin.out⟩
    · have hvv := htt hq
      have c1 : (t1 != t2) = true := bne_yes hq
      clear htt hnear Hv HBA HBB bl1 bl2 B1 B2 hn0 hm0 H4
      rcases Int.lt_or_le t1 t2 with hlt | hge
      · obtain rfl : v = -1 := by rw [← hvv]; exact cmpI_lt hlt
        have b1 : decide (t1 < t2) = true := decide_eq_true hlt
        clear hvv hq hlt
        go_wp2_with fail
        go_region_held3 (fun w' => w'.cell? ⟨w.heap.size, 0, none⟩ = some (.bool false) ∧ w'.cell? ⟨w.heap.size, 1, none⟩ = some (.slice A n c) ∧ w'.cell? ⟨w.heap.size, 2, none⟩ = some (.int .i64 e1) ∧ w'.cell? ⟨w.heap.size + 1, 0, none⟩ = some (.bool false) ∧ w'.cell? ⟨w.heap.size + 1, 1, none⟩ = some (.slice B m d) ∧ w'.cell? ⟨w.heap.size + 1, 2, none⟩ = some (.int .i64 e2) ∧ Hid (HN w w.heap.size false A n c ds e1 (w.heap.size + 1) false B m d es e2 w'))
          (first | (with_reducible exact K4.out) | (with_reducible assumption))
          (first | (go_at_call 67; (with_reducible refine (HT1.out _ (by first | (with_reducible exact K4.out) | (with_reducible assumption))).mono ?_); rintro e w5 ⟨rfl, hY⟩) | (go_at_call 67; (with_reducible refine (HT2.out _ (by with_reducible assumption)).mono ?_); rintro e w6 ⟨rfl, hZ⟩))
        all_goals (
          have HF := Lib.hid hZ.2.2.2.2.2.2.out.2.2.2.2
          clear hY hZ HT1 HT2 K4 x0 x1 x2 y0 y1 y2
          go_wp2_with fail
          go_ret
          exact ⟨rfl, HF.out⟩)
      · obtain rfl : v = 1 := by rw [← hvv]; exact cmpI_gt (by omega)
        have b1 : decide (t1 < t2) = false := decide_eq_false (by omega)
        clear hvv hq hge
        go_wp2_with fail
        go_region_held3 (fun w' => w'.cell? ⟨w.heap.size, 0, none⟩ = some (.bool false) ∧ w'.cell? ⟨w.heap.size, 1, none⟩ = some (.slice A n c) ∧ w'.cell? ⟨w.heap.size, 2, none⟩ = some (.int .i64 e1) ∧ w'.cell? ⟨w.heap.size + 1, 0, none⟩ = some (.bool false) ∧ w'.cell? ⟨w.heap.size + 1, 1, none⟩ = some (.slice B m d) ∧ w'.cell? ⟨w.heap.size + 1, 2, none⟩ = some (.int .i64 e2) ∧ Hid (HN w w.heap.size false A n c ds e1 (w.heap.size + 1) false B m d es e2 w'))
          (first | (with_reducible exact K4.out) | (with_reducible assumption))
          (first | (go_at_call 67; (with_reducible refine (HT1.out _ (by first | (with_reducible exact K4.out) | (with_reducible assumption))).mono ?_); rintro e w5 ⟨rfl, hY⟩) | (go_at_call 67; (with_reducible refine (HT2.out _ (by with_reducible assumption)).mono ?_); rintro e w6 ⟨rfl, hZ⟩))
        all_goals (
          have HF := Lib.hid hZ.2.2.2.2.2.2.out.2.2.2.2
          clear hY hZ HT1 HT2 K4 x0 x1 x2 y0 y1 y2
          go_wp2_with fail
          go_ret
          exact ⟨rfl, HF.out⟩)
end Go.Proofs.YtgacafdkhailmaaDoor

/- The document's rounding: planimeterref07.Limit, value, Below. -/
namespace Go.Proofs.YtgacafdkhailmaaDoor
open Go.RowKit

theorem dig_new1 (w : World) (t x : Nat) (X : Int) (hX : X = (x : Int)) (hx : x < 65536) : Dig (w.alloc (.cells #[.int .u32 X] t)) (some ⟨w.heap.size, 0, none⟩) 1 1 [x] :=
  ⟨⟨rfl, Nat.le_refl _, fun _ => ⟨w.heap.size, 0, rfl, by simp, fun k hk => by
    obtain rfl : k = 0 := by omega
    subst hX
    simp [World.cell?_alloc_new]⟩⟩, D.Words.one hx⟩
theorem dbare_one {x : Nat} (hx : x ≠ 0) : D.Bare [x] := by
  unfold D.Bare
  simp [D.tl, hx]
theorem dval_one (x : Nat) : D.val [x] = x := by show x + 65536 * 0 = x; omega

theorem limit_l (w : World) : Calls Tryd.prog 43 #[] w (NTold w ⟨false, 1, 1024⟩ 4) := by
  have a1 := below1 w (.cells #[.bool false, .slice (some ⟨w.heap.size + 1, 0, none⟩) 1 1, .int .i64 1024] 37)
  have a2 := below1 (w.alloc (.cells #[.bool false, .slice (some ⟨w.heap.size + 1, 0, none⟩) 1 1, .int .i64 1024] 37)) (.cells #[.int .u32 1] 62)
  have n1 := dig_new1 (w.alloc (.cells #[.bool false, .slice (some ⟨w.heap.size + 1, 0, none⟩) 1 1, .int .i64 1024] 37)) 62 1 1 rfl (by decide)
  rw [World.size_alloc] at n1
  have Hfin : Hid (NTold w ⟨false, 1, 1024⟩ 4 (.returned (.agg #[.bool false, .slice (some ⟨w.heap.size + 1, 0, none⟩) 1 1, .int .i64 1024])) ((w.alloc (.cells #[.bool false, .slice (some ⟨w.heap.size + 1, 0, none⟩) 1 1, .int .i64 1024] 37)).alloc (.cells #[.int .u32 1] 62))) :=
    ⟨_, 1, 1, [1], rfl, by decide, n1, dbare_one (by decide), dval_one 1, a1.trans (a2.mono a1.size)⟩
  clear a1 a2 n1
  go_enter Tryd.func43, Tryd.ntmps43
  go_wp2
  exact bodyPost_ret (v := .agg #[.bool false, .slice (some ⟨w.heap.size + 1, 0, none⟩) 1 1, .int .i64 1024]) (by simp [results, Tryd.results43, go_sem]) rfl Hfin.out

/-- The number of bits without a sign; infinity's is 2^1024. -/
def vO (b : Nat) : Dy := if b = 9218868437227405312 then ⟨false, 1, 1024⟩ else fO b
theorem sz_inf {e : Int} (h : e = 1024) : sz 1 e = vX 9218868437227405312 := by
  have h1 := sh_eq (e := e) (by omega) (by omega)
  have h2 := kb_eq
  rw [vX_inf, sz, Nat.one_mul]
  congr 1
  omega
theorem vO_facts {b : Nat} (hb : b ≤ 9218868437227405312) : (vO b).neg = false ∧ sz (vO b).V (vO b).e = vX b ∧ -1074 ≤ (vO b).e ∧ (vO b).e ≤ 1024 ∧ (vO b).V < 9007199254740992 ∧ ((vO b).V = 0 ↔ b = 0) := by
  by_cases h : b = 9218868437227405312
  · have e : vO b = ⟨false, 1, 1024⟩ := by unfold vO; rw [if_pos h]
    rw [e]
    refine ⟨rfl, ?_, by decide, by decide, by decide, ?_⟩
    · rw [h]; exact sz_inf (e := 1024) rfl
    · show (1 : Nat) = 0 ↔ b = 0; omega
  · have e : vO b = fO b := by unfold vO; rw [if_neg h]
    rw [e]
    have hf : Fnt b := by unfold Fnt fex; omega
    have hng : fng b = false := decide_eq_false (by omega)
    have hs := fO_size hf
    rw [Nat.mod_eq_of_lt (show b < 9223372036854775808 by omega)] at hs
    have hp := x_parts (X := b) (by omega)
    by_cases h0 : fm b = 0
    · have hz : fO b = ⟨false, 0, 0⟩ := fO_zero h0
      refine ⟨by rw [hz], hs, by rw [hz]; decide, by rw [hz]; decide, by rw [hz]; decide, ?_⟩
      rw [hz]
      show (0 : Nat) = 0 ↔ b = 0
      rw [h0] at hp
      constructor
      · intro _
        rcases Nat.eq_zero_or_pos (fE b) with h9 | h9
        · have := hp.1; rw [h9] at this; omega
        · have := hp.2.2.1 h9; omega
      · intro _; rfl
    · obtain ⟨k1, k2, k3⟩ := fO_pos hf h0
      have hbd := fe_bd hf
      have hl : low (fm b) < 53 := by
        refine (low_lt_iff (Nat.pos_of_ne_zero h0)).2 ?_
        have := (f_parts b).2.1
        show fm b % 9007199254740992 ≠ 0
        omega
      refine ⟨by rw [k1, hng], hs, by rw [k3]; omega, by rw [k3]; omega, ?_, ?_⟩
      · rw [k2]; exact Nat.lt_of_le_of_lt (Nat.div_le_self _ _) hp.2.1
      · rw [k2]
        constructor
        · intro h9; exact absurd (odd_part_zero.1 h9) h0
        · intro h9
          subst h9
          exact absurd (show fm 0 = 0 from by decide) h0

theorem rvalue_l (b : Nat) (hb : b ≤ 9218868437227405312) (w : World) : Calls Tryd.prog 45 #[.int .u64 (b : Int)] w (NTold w (vO b) 4) := by
  have a1 := below1 w (.cells #[.bool false, .slice none 0 0, .int .i64 0] 37)
  have HS := Lib.hid a1
  have Hb := Lib.hid (Bd.new w 37 false none 0 0 0)
  by_cases h : b = 9218868437227405312
  · have e : vO b = ⟨false, 1, 1024⟩ := by unfold vO; rw [if_pos h]
    rw [e]
    have H1 := Lib.hid (limit_l (w.alloc (.cells #[.bool false, .slice none 0 0, .int .i64 0] 37)))
    subst h
    clear a1 e hb
    go_enter Tryd.func45, Tryd.ntmps45
    go_wp2_with fail
    refine H1.out.mono ?_
    rintro e w2 ⟨A2, m2, c2, es, rfl, hm2, hl2, hd2, hv2, hB2⟩
    have k2 := Hb.out.below hB2
    have Hfin : Hid (NTold w ⟨false, 1, 1024⟩ 4 (.returned (.agg #[.bool false, .slice A2 m2 c2, .int .i64 1024])) (World.put w2 w.heap.size false A2 m2 c2 1024)) :=
      ⟨A2, m2, c2, es, rfl, hm2, k2.dig hl2 _ _ _ _ _, hd2, hv2, below_put (HS.out.trans (hB2.mono HS.out.size)) (Nat.le_refl _) _ _ _ _ _⟩
    have y0 := k2.c0
    have y1 := k2.c1
    have y2 := k2.c2
    have yf := k2.fz
    clear k2 hB2 hl2 hd2 hv2 H1 Hb HS
    go_wp2
    exact bodyPost_ret (v := .agg #[.bool false, .slice A2 m2 c2, .int .i64 1024]) (by simp [results, Tryd.results45, go_sem, y0, y1, y2]) rfl Hfin.out
  · have e : vO b = fO b := by unfold vO; rw [if_neg h]
    rw [e]
    have H1 := Lib.hid (worth_any b (by omega) (w.alloc (.cells #[.bool false, .slice none 0 0, .int .i64 0] 37)))
    have c1 : ((b : Int) == 9218868437227405312) = false := beq_no (by omega)
    generalize fO b = dd at H1 ⊢
    obtain ⟨dg, dV, dE⟩ := dd
    clear a1 e hb h
    go_enter Tryd.func45, Tryd.ntmps45
    go_wp2_with fail
    refine H1.out.mono ?_
    rintro e w2 ⟨A2, m2, c2, es, rfl, hm2, hl2, hd2, hv2, hB2⟩
    have k2 := Hb.out.below hB2
    have Hfin : Hid (NTold w ⟨dg, dV, dE⟩ 4 (.returned (.agg #[.bool dg, .slice A2 m2 c2, .int .i64 dE])) (World.put w2 w.heap.size dg A2 m2 c2 dE)) :=
      ⟨A2, m2, c2, es, rfl, hm2, k2.dig hl2 _ _ _ _ _, hd2, hv2, below_put (HS.out.trans (hB2.mono HS.out.size)) (Nat.le_refl _) _ _ _ _ _⟩
    have y0 := k2.c0
    have y1 := k2.c1
    have y2 := k2.c2
    have yf := k2.fz
    clear k2 hB2 hl2 hd2 hv2 H1 Hb HS
    go_wp2
    exact bodyPost_ret (v := .agg #[.bool dg, .slice A2 m2 c2, .int .i64 dE]) (by simp [results, Tryd.results45, go_sem, y0, y1, y2]) rfl Hfin.out
end Go.Proofs.YtgacafdkhailmaaDoor

/- The document's rounding: planimeterref07.Below. -/
namespace Go.Proofs.YtgacafdkhailmaaDoor
open Go.RowKit

/-- A number of the document, in its box. -/
def HoldB (w : World) (A : Option Addr) (n c : Nat) (ds : List Nat) (e0 : Int) (u : World) : Prop :=
  Bd u w.heap.size 37 false A n c e0 ∧ Dig u A n c ds ∧ Below w.heap.size w u
abbrev CellsB (w : World) (A : Option Addr) (n c : Nat) (ds : List Nat) (e0 : Int) (w' : World) : Prop :=
  w'.cell? ⟨w.heap.size, 0, none⟩ = some (.bool false) ∧ w'.cell? ⟨w.heap.size, 1, none⟩ = some (.slice A n c) ∧ w'.cell? ⟨w.heap.size, 2, none⟩ = some (.int .i64 e0) ∧ Hid (HoldB w A n c ds e0 w')
section
variable {w : World} {A : Option Addr} {n c : Nat} {ds : List Nat} {e0 : Int} {u u' : World}
theorem HoldB.below (h : HoldB w A n c ds e0 u) (hb : Below u.heap.size u u') : HoldB w A n c ds e0 u' := ⟨h.1.below hb, h.2.1.below hb, h.2.2.trans (hb.mono h.2.2.size)⟩
theorem HoldB.cells (h : HoldB w A n c ds e0 u) : CellsB w A n c ds e0 u := ⟨h.1.c0, h.1.c1, h.1.c2, h⟩
end

/-- A value, while a number is held. -/
theorem hold_value {w : World} {A : Option Addr} {n c : Nat} {ds : List Nat} {e0 : Int} (b : Nat) (hb : b ≤ 9218868437227405312) (u : World) (hu : CellsB w A n c ds e0 u) :
    Calls Tryd.prog 45 #[.int .u64 (b : Int)] u fun e w' => ∃ (A1 : Option Addr) (m1 c1 : Nat) (us : List Nat), e = .returned (.agg #[.bool false, .slice A1 m1 c1, .int .i64 (vO b).e]) ∧ m1 ≤ 4 ∧ CellsB w A n c ds e0 w' ∧ Hid (Dig w' A1 m1 c1 us ∧ D.Bare us ∧ D.val us = (vO b).V) := by
  refine (rvalue_l b hb u).mono ?_
  rintro e w' ⟨A1, m1, c1, us, rfl, h1, h2, h3, h4, h5⟩
  rw [(vO_facts hb).1]
  exact ⟨A1, m1, c1, us, rfl, h1, (hu.2.2.2.out.below h5).cells, h2, h3, h4⟩
/-- .. held against it. -/
theorem hold_cmp {w : World} {A : Option Addr} {n c : Nat} {ds : List Nat} {e0 : Int} (v : Int) (b : Nat) (hb : b ≤ 9218868437227405312) (hn : n ≤ 240) (ba : D.Bare ds) (hV : D.val ds ≠ 0) (h1 : -1073741824 ≤ e0) (h2 : e0 ≤ 1073741824) (hv : cmpZ (vX b) (sz (D.val ds) e0) = v)
    (A1 : Option Addr) (m1 c1 : Nat) (us : List Nat) (E1 : Int) (hE : (vO b).e = E1) (u : World) (hu : CellsB w A n c ds e0 u) (hm : m1 ≤ 4) (hP : Dig u A1 m1 c1 us ∧ D.Bare us ∧ D.val us = (vO b).V) :
    Calls Tryd.prog 44 #[.agg #[.bool false, .slice A1 m1 c1, .int .i64 E1], .agg #[.bool false, .slice A n c, .int .i64 e0]] u fun e w' => e = .returned (.int .i64 v) ∧ CellsB w A n c ds e0 w' := by
  have hf := vO_facts hb
  have h := hu.2.2.2.out
  subst hE
  refine (rncmp_l v A1 m1 c1 us (vO b).e A n c ds e0 u hP.1 h.2.1 hP.2.1 ba (by omega) hn hV (by omega) (by omega) h1 h2 (by rw [hP.2.2, hf.2.1]; exact hv)).mono ?_
  rintro e w' ⟨rfl, hb'⟩
  exact ⟨rfl, (h.below hb').cells⟩

set_option maxHeartbeats 2000000 in
theorem rbelow_l (X : Nat) (A : Option Addr) (n c : Nat) (ds : List Nat) (e0 : Int) (w : World) (hA : Dig w A n c ds) (ba : D.Bare ds) (hn : n ≤ 240) (hV : D.val ds ≠ 0) (h1 : -1073741824 ≤ e0) (h2 : e0 ≤ 1073741824) (hX : IsLow (sz (D.val ds) e0) X) :
    Calls Tryd.prog 21 #[.agg #[.bool false, .slice A n c, .int .i64 e0]] w fun e w' => e = .returned (.int .u64 (X : Int)) ∧ Below w.heap.size w w' := by
  have a1 := below1 w (.cells #[.bool false, .slice A n c, .int .i64 e0] 37)
  have H0 : HoldB w A n c ds e0 _ := ⟨Bd.new w 37 false A n c e0, hA.below a1, a1⟩
  have K0 := Lib.hid (H0.below (below_drew _)).cells
  obtain ⟨S, hS⟩ : ∃ S, sz (D.val ds) e0 = S := ⟨_, rfl⟩
  have HL : Hid (∀ u, CellsB w A n c ds e0 u → Calls Tryd.prog 43 #[] u fun e w' => ∃ (A1 : Option Addr) (m1 c1 : Nat) (us : List Nat), e = .returned (.agg #[.bool false, .slice A1 m1 c1, .int .i64 1024]) ∧ m1 ≤ 4 ∧ CellsB w A n c ds e0 w' ∧ Hid (Dig w' A1 m1 c1 us ∧ D.Bare us ∧ D.val us = (vO 9218868437227405312).V)) := fun u hu => by
    refine (limit_l u).mono ?_
    rintro e w' ⟨A1, m1, c1, us, rfl, k1, k2, k3, k4, k5⟩
    exact ⟨A1, m1, c1, us, rfl, k1, (hu.2.2.2.out.below k5).cells, k2, k3, by rw [k4]; unfold vO; rw [if_pos rfl]⟩
  have HC : Hid (∀ (v : Int) (b : Nat) (E1 : Int), b ≤ 9218868437227405312 → cmpZ (vX b) S = v → (vO b).e = E1 → ∀ (A1 : Option Addr) (m1 c1 : Nat) (us : List Nat) (u : World), CellsB w A n c ds e0 u → m1 ≤ 4 → (Dig u A1 m1 c1 us ∧ D.Bare us ∧ D.val us = (vO b).V) →
      Calls Tryd.prog 44 #[.agg #[.bool false, .slice A1 m1 c1, .int .i64 E1], .agg #[.bool false, .slice A n c, .int .i64 e0]] u fun e w' => e = .returned (.int .i64 v) ∧ CellsB w A n c ds e0 w') := fun v b E1 hb hv hE A1 m1 c1 us u hu hm hP =>
    hold_cmp v b hb hn ba hV h1 h2 (by rw [hS]; exact hv) A1 m1 c1 us E1 hE u hu hm hP
  have HE : Hid ((vO 9218868437227405312).e = 1024) := by show (vO 9218868437227405312).e = 1024; unfold vO; rw [if_pos rfl]
  rw [hS] at hX
  have HX := Lib.hid hX
  obtain ⟨v0, hv0⟩ : ∃ v, cmpZ (vX 9218868437227405312) S = v := ⟨_, rfl⟩
  have Hv0 := Lib.hid hv0
  have hcase : (X = 9218868437227405312 ∧ v0 ≤ 0) ∨ (X < 9218868437227405312 ∧ v0 = 1 ∧ S < vX 9218868437227405312) := by
    rcases Nat.lt_or_ge X 9218868437227405312 with h | h
    · have k1 := hX.2.2 h
      have k2 := vX_le (X := X + 1) (Y := 9218868437227405312) h (Nat.le_refl _)
      exact Or.inr ⟨h, by rw [← hv0, cmpZ_gt (by omega)], by omega⟩
    · have k0 : X = 9218868437227405312 := by have := hX.1; omega
      have k1 := hX.2.1
      rw [k0] at k1
      refine Or.inl ⟨k0, ?_⟩
      rw [← hv0]
      rcases Nat.lt_or_eq_of_le k1 with k2 | k2
      · rw [cmpZ_lt k2]; decide
      · rw [cmpZ_eq k2]; decide
  clear hA ba hV a1 H0 hX hv0 hS h1 h2 hn
  go_enter Tryd.func21, Tryd.ntmps21
  obtain ⟨bb, hbb⟩ : ∃ bb, decide (v0 ≤ 0) = bb := ⟨_, rfl⟩
  go_wp2_with fail
  go_cut [9] from 6 (fun s9 wx => s9 = .bool bb ∧ Hid (HoldB w A n c ds e0 wx))
  case first =>
    go_region_held3 (fun w' => w'.cell? ⟨w.heap.size, 0, none⟩ = some (.bool false) ∧ w'.cell? ⟨w.heap.size, 1, none⟩ = some (.slice A n c) ∧ w'.cell? ⟨w.heap.size, 2, none⟩ = some (.int .i64 e0) ∧ Hid (HoldB w A n c ds e0 w'))
      (first | (with_reducible exact K0.out) | (with_reducible assumption))
      (first | (go_at_call 43; (with_reducible refine (HL.out _ (by first | (with_reducible exact K0.out) | (with_reducible assumption))).mono ?_); rintro e w1 ⟨A1, m1, c1, us, rfl, hm1, hY, hP⟩) | (go_at_call 44; (with_reducible refine (HC.out v0 9218868437227405312 1024 (Nat.le_refl _) Hv0.out HE.out A1 m1 c1 us _ (by with_reducible assumption) hm1 hP.out).mono ?_); rintro e w2 ⟨rfl, hZ⟩))
    have K2 := Lib.hid hZ.2.2.2.out
    clear hY hZ hP HL HE K0
    go_wp2_with fail
    go_meet
    exact ⟨by rw [← hbb], K2⟩
  case rest =>
  obtain ⟨w2, rfl⟩ : ∃ w2, w2 = wc := ⟨_, rfl⟩
  obtain ⟨rfl, K2⟩ := hcut
  clear HL Hv0 HE K0
  rcases hcase with ⟨hX0, hv0⟩ | ⟨hX0, hv1, hS0⟩
  · obtain rfl : bb = true := by rw [← hbb]; exact decide_eq_true hv0
    have Hfin := Lib.hid K2.out.2.2
    subst hX0
    clear K2 HC HX hv0 hbb
    go_wp2
    go_ret
    exact ⟨rfl, Hfin.out⟩
  · obtain rfl : bb = false := by rw [← hbb]; exact decide_eq_false (by omega)
    have hS1 := Lib.hid hS0
    clear hS0 hv1 hbb
    go_wp2
    go_loopw [3, 4] (fun l h wr => ∃ lo hi : Nat, l = .int .u64 (lo : Int) ∧ h = .int .u64 (hi : Int) ∧ lo < hi ∧ hi ≤ 9218868437227405312 ∧ Hid (vX lo ≤ S ∧ S < vX hi) ∧ Hid (HoldB w A n c ds e0 wr)) (fun l h _ => (intOf h).toNat - (intOf l).toNat)
    case atStart => exact ⟨0, 9218868437227405312, rfl, rfl, by decide, Nat.le_refl _, ⟨by show vX 0 ≤ S; rw [show vX 0 = 0 from by unfold vX; rw [show fm 0 = 0 from by decide, Nat.zero_mul]]; exact Nat.zero_le _, hS1.out⟩, K2⟩
    case round =>
      obtain ⟨lo, hi, rfl, rfl, hlh, hhi, HV, HB⟩ := hrel
      obtain ⟨dd, hdd⟩ : ∃ dd, hi - lo = dd := ⟨_, rfl⟩
      have e1 : (hi : Int) - (lo : Int) = (dd : Int) := by omega
      have hd0 : 1 ≤ dd := by omega
      by_cases hd1 : 1 < dd
      · obtain ⟨h2, hh2⟩ : ∃ h2, dd / 2 = h2 := ⟨_, rfl⟩
        have e2 : (dd : Int) / 2 = (h2 : Int) := by omega
        obtain ⟨mid, hmid⟩ : ∃ mid, lo + h2 = mid := ⟨_, rfl⟩
        have e3 : (lo : Int) + (h2 : Int) = (mid : Int) := by omega
        have b1 : decide ((1 : Int) < (dd : Int)) = true := decide_eq_true (by omega)
        have hm1 : lo < mid ∧ mid < hi := by omega
        obtain ⟨hm1, hm2⟩ := hm1
        have hmb : mid ≤ 9218868437227405312 := by omega
        obtain ⟨E1, hE1⟩ : ∃ E, (vO mid).e = E := ⟨_, rfl⟩
        have HE1 := Lib.hid hE1
        obtain ⟨v, hv⟩ : ∃ v, cmpZ (vX mid) S = v := ⟨_, rfl⟩
        have Hv := Lib.hid hv
        have KB := Lib.hid (HB.out.below (below_drew _)).cells
        have HVal : Hid (∀ u, CellsB w A n c ds e0 u → Calls Tryd.prog 45 #[.int .u64 (mid : Int)] u fun e w' => ∃ (A1 : Option Addr) (m1 c1 : Nat) (us : List Nat), e = .returned (.agg #[.bool false, .slice A1 m1 c1, .int .i64 E1]) ∧ m1 ≤ 4 ∧ CellsB w A n c ds e0 w' ∧ Hid (Dig w' A1 m1 c1 us ∧ D.Bare us ∧ D.val us = (vO mid).V)) := fun u hu => by
          have := hold_value mid hmb u hu
          rw [hE1] at this
          exact this
        have hvc : (v ≤ 0 ∧ vX mid ≤ S) ∨ (v = 1 ∧ S < vX mid) := by
          rw [← hv]
          rcases Nat.lt_trichotomy (vX mid) S with k | k | k
          · rw [cmpZ_lt k]; exact Or.inl ⟨by decide, by omega⟩
          · rw [cmpZ_eq k]; exact Or.inl ⟨by decide, by omega⟩
          · rw [cmpZ_gt k]; exact Or.inr ⟨rfl, k⟩
        have Hvc := Lib.hid hvc
        clear hv hE1 hdd hh2 hmid hvc
        go_wp2_with fail
        go_region_held3 (fun w' => w'.cell? ⟨w.heap.size, 0, none⟩ = some (.bool false) ∧ w'.cell? ⟨w.heap.size, 1, none⟩ = some (.slice A n c) ∧ w'.cell? ⟨w.heap.size, 2, none⟩ = some (.int .i64 e0) ∧ Hid (HoldB w A n c ds e0 w'))
          (first | (with_reducible exact KB.out) | (with_reducible assumption))
          (first | (go_at_call 45; (with_reducible refine (HVal.out _ (by first | (with_reducible exact KB.out) | (with_reducible assumption))).mono ?_); rintro e w5 ⟨A5, m5, c5, us5, rfl, hm5, hY, hP⟩) | (go_at_call 44; (with_reducible refine (HC.out v mid E1 hmb Hv.out HE1.out A5 m5 c5 us5 _ (by with_reducible assumption) hm5 hP.out).mono ?_); rintro e w6 ⟨rfl, hZ⟩))
        have K6 := Lib.hid hZ.2.2.2.out
        rcases Hvc.out with ⟨k1, k2⟩ | ⟨k1, k2⟩
        · have HV2 : Hid (vX mid ≤ S ∧ S < vX hi) := ⟨k2, HV.out.2⟩
          clear hY hZ hP KB HB HV HVal Hvc k2 Hv HE1
          go_wp2
          go_roundw
          case rel => exact ⟨mid, hi, rfl, rfl, hm2, hhi, HV2, K6⟩
          case measure => simp [intOf]; omega
        · have HV2 : Hid (vX lo ≤ S ∧ S < vX mid) := ⟨HV.out.1, k2⟩
          subst k1
          clear hY hZ hP KB HB HV HVal Hvc k2 Hv HE1
          go_wp2
          go_roundw
          case rel => exact ⟨lo, mid, rfl, rfl, hm1, hmb, HV2, K6⟩
          case measure => simp [intOf]; omega
      · obtain rfl : dd = 1 := by omega
        obtain rfl : hi = lo + 1 := by omega
        have hlow : IsLow S lo := ⟨by omega, HV.out.1, fun _ => HV.out.2⟩
        obtain rfl : X = lo := HX.out.uniq hlow
        have Hfin := Lib.hid HB.out.2.2
        clear hlow HV HB HX K2 HC hS1
        go_wp2
        go_ret
        exact ⟨rfl, Hfin.out⟩
end Go.Proofs.YtgacafdkhailmaaDoor

/- The document's rounding: planimeterref07.Middle. -/
namespace Go.Proofs.YtgacafdkhailmaaDoor
open Go.RowKit

theorem dig_len_b {ds : List Nat} {k : Nat} (hb : D.Bare ds) (h : blen (D.val ds) ≤ 16 * k) : ds.length ≤ k := dig_len hb (blen_le_iff.1 h)
/-- The sum of what some bits and the next ones are worth. -/
theorem next_sum {b : Nat} (hb : b < 9218868437227405312) : ∃ (V : Nat) (e : Int), V ≠ 0 ∧ blen V ≤ 2240 ∧ -1074 ≤ e ∧ e ≤ 1024 ∧ sz V e = vX b + vX (b + 1) ∧
    ∀ (A : Option Addr) (n c : Nat) (ds : List Nat) (B : Option Addr) (m d : Nat) (es : List Nat) (w : World), Dig w A n c ds → Dig w B m d es → D.Bare ds → D.Bare es → n ≤ 4 → m ≤ 4 → D.val ds = (vO b).V → D.val es = (vO (b + 1)).V →
      Calls Tryd.prog 59 #[.agg #[.bool false, .slice A n c, .int .i64 (vO b).e], .agg #[.bool false, .slice B m d, .int .i64 (vO (b + 1)).e]] w (NTold w ⟨false, V, e⟩ 100001) := by
  obtain ⟨_, a2, a3, a4, a5, a6⟩ := vO_facts (b := b) (by omega)
  obtain ⟨_, c2, c3, c4, c5, c6⟩ := vO_facts (b := b + 1) (by omega)
  generalize (vO b).V = V1 at *
  generalize (vO b).e = e1 at *
  generalize (vO (b + 1)).V = V2 at *
  generalize (vO (b + 1)).e = e2 at *
  have hV2 : V2 ≠ 0 := fun h => by have := c6.1 h; omega
  obtain ⟨K, hK⟩ : ∃ K : Nat, K = 2153 := ⟨_, rfl⟩
  have hs : ∀ q : Nat, q ≤ 2100 → ∀ V : Nat, V < 9007199254740992 → V * 2 ^ q < 2 ^ K := fun q hq V hV => by
    have h1 : V * 2 ^ q < 2 ^ 53 * 2 ^ q := Nat.mul_lt_mul_of_pos_right hV (Nat.two_pow_pos _)
    rw [← Nat.pow_add] at h1
    exact Nat.lt_of_lt_of_le h1 (Nat.pow_le_pow_right (by decide) (by omega))
  have hbig : ∀ x y : Nat, x < 2 ^ K → y < 2 ^ K → blen (x + y) ≤ 2240 := fun x y hx hy => by
    have h0 : x + y < 2 ^ (K + 1) := by rw [Nat.pow_succ]; omega
    have h2 := blen_le_iff.2 h0
    omega
  have szadd : ∀ (x y : Nat) (e : Int), sz (x + y) e = sz x e + sz y e := fun x y e => by unfold sz; rw [Nat.add_mul]
  by_cases h0 : V1 = 0
  · refine ⟨V2, e2, hV2, ?_, c3, c4, ?_, ?_⟩
    · have := hbig 0 V2 (Nat.two_pow_pos _) (by have := hs 0 (by decide) V2 c5; rwa [Nat.pow_zero, Nat.mul_one] at this)
      rwa [Nat.zero_add] at this
    · rw [c2, ← a2, h0, sz_zero, Nat.zero_add]
    · intro A n c ds B m d es w hA hB ba bb hn hm hv1 hv2
      obtain rfl : n = 0 := (dnil_iff hA ba).2 (hv1.trans h0)
      refine (radd_zero false A c e1 false B m d es e2 w hB bb).mono ?_
      rintro e w' ⟨A5, m5, c5, rs, rfl, k1, k2, k3, k4, k5⟩
      exact ⟨A5, m5, c5, rs, rfl, by omega, k2, k3, k4.trans hv2, k5⟩
  · by_cases hl : e2 < e1
    · obtain ⟨q, hq⟩ : ∃ q : Nat, e1 - e2 = (q : Int) := ⟨(e1 - e2).toNat, by omega⟩
      have hh : held e1 = held e2 + q := by rw [held_id (by omega) (by omega), held_id (by omega) (by omega)]; omega
      refine ⟨V1 * 2 ^ q + V2, e2, by omega, ?_, c3, c4, ?_, ?_⟩
      · exact hbig _ _ (hs q (by omega) V1 a5) (by have := hs 0 (by decide) V2 c5; rwa [Nat.pow_zero, Nat.mul_one] at this)
      · rw [szadd, ← sz_shift hh, a2, c2]
      · intro A n c ds B m d es w hA hB ba bb hn hm hv1 hv2
        exact radd_sum_L (V1 * 2 ^ q) V2 q A n c ds e1 B m d es e2 w hA hB ba bb (by omega) (by omega) (fun h => h0 (hv1.symm.trans ((dnil_iff hA ba).1 h))) (fun h => hV2 (hv2.symm.trans ((dnil_iff hB bb).1 h))) hq (by omega) hl (by rw [hv1]; rfl) hv2
    · obtain ⟨q, hq⟩ : ∃ q : Nat, e2 - e1 = (q : Int) := ⟨(e2 - e1).toNat, by omega⟩
      have hh : held e2 = held e1 + q := by rw [held_id (by omega) (by omega), held_id (by omega) (by omega)]; omega
      refine ⟨V1 + V2 * 2 ^ q, e1, by omega, ?_, a3, a4, ?_, ?_⟩
      · exact hbig _ _ (by have := hs 0 (by decide) V1 a5; rwa [Nat.pow_zero, Nat.mul_one] at this) (hs q (by omega) V2 c5)
      · rw [szadd, ← sz_shift hh, a2, c2]
      · intro A n c ds B m d es w hA hB ba bb hn hm hv1 hv2
        exact radd_sum_G V1 (V2 * 2 ^ q) q A n c ds e1 B m d es e2 w hA hB ba bb (by omega) (by omega) (fun h => h0 (hv1.symm.trans ((dnil_iff hA ba).1 h))) (fun h => hV2 (hv2.symm.trans ((dnil_iff hB bb).1 h))) hq (by omega) hv1 (by rw [hv2]; rfl)

theorem mid_spec {b : Nat} (hb : b < 9218868437227405312) : ∃ (V : Nat) (E : Int), V ≠ 0 ∧ -1073741824 ≤ E ∧ E ≤ 1073741824 ∧ 2 * sz V E = vX b + vX (b + 1) ∧
    ∀ w, Calls Tryd.prog 34 #[.int .u64 (b : Int)] w (NTold w ⟨false, V, E⟩ 140) := by
  obtain ⟨V, e, h1, h2, h3, h4, h5, h6⟩ := next_sum hb
  refine ⟨V, e - 1, h1, by omega, by omega, ?_, ?_⟩
  · have hh : held e = held (e - 1) + (1 : Nat) := by rw [held_id (by omega) (by omega), held_id (by omega) (by omega)]; omega
    rw [← h5, sz_shift hh]
    unfold sz
    rw [Nat.pow_one, Nat.mul_comm V 2, Nat.mul_assoc]
  · intro w
    have a1 := below1 w (.cells #[.bool false, .slice none 0 0, .int .i64 0] 37)
    have HS := Lib.hid a1
    have Hb := Lib.hid (Bd.new w 37 false none 0 0 0)
    have H1 := rvalue_l b (by omega) (w.alloc (.cells #[.bool false, .slice none 0 0, .int .i64 0] 37))
    have H2 := fun u => rvalue_l (b + 1) (by omega) u
    have g1 := (vO_facts (b := b) (by omega)).1
    have g2 := (vO_facts (b := b + 1) (by omega)).1
    obtain ⟨⟨d0, d1, d2⟩, hd⟩ : ∃ dd, vO b = dd := ⟨_, rfl⟩
    obtain ⟨⟨k0, k1, k2⟩, hk⟩ : ∃ dd, vO (b + 1) = dd := ⟨_, rfl⟩
    rw [hd] at H1 g1 h6
    rw [hk] at H2 g2 h6
    simp only at g1 g2 h6
    subst g1 g2
    have H1 := Lib.hid H1
    have H2 := Lib.hid H2
    have H6 := Lib.hid h6
    have Hlt := Lib.hid h2
    obtain ⟨b', hb'⟩ : ∃ b', b + 1 = b' := ⟨_, rfl⟩
    have e1 : (b : Int) + 1 = (b' : Int) := by omega
    rw [hb'] at H2
    have hbb : b' ≤ 9218868437227405312 := by omega
    clear a1 h1 h2 h5 h6 hd hk hb' hb
    go_enter Tryd.func34, Tryd.ntmps34
    go_wp2_with fail
    refine H1.out.mono ?_
    rintro e w1 ⟨A1, m1, c1, us, rfl, hm1, hl1, hd1, hv1, hB1⟩
    have Hb1 := Lib.hid (Hb.out.below hB1)
    have HS1 := Lib.hid (HS.out.trans (hB1.mono HS.out.size))
    have HL1 := Lib.hid hl1
    have HD1 := Lib.hid (And.intro hd1 hv1)
    clear hl1 hd1 hv1 hB1 Hb HS H1
    go_wp2_with fail
    refine (H2.out _).mono ?_
    rintro e w2 ⟨A2, m2, c2, vs, rfl, hm2, hl2, hd2, hv2, hB2⟩
    have Hb2 := Lib.hid (Hb1.out.below hB2)
    have HS2 := Lib.hid (HS1.out.trans (hB2.mono HS1.out.size))
    have H3 := Lib.hid (H6.out A1 m1 c1 us A2 m2 c2 vs w2 (HL1.out.below hB2) hl2 HD1.out.1 hd2 hm1 hm2 HD1.out.2 hv2)
    clear hl2 hd2 hv2 hB2 Hb1 HS1 H2 HL1 HD1 H6
    go_wp2_with fail
    refine H3.out.mono ?_
    rintro e w3 ⟨A3, m3, c3, rs, rfl, hm3, hl3, hd3, hv3, hB3⟩
    have hm4 : m3 ≤ 140 := by
      rw [← hl3.len]
      exact dig_len_b hd3 (by rw [hv3]; exact Hlt.out)
    have a4 := below1 w3 (.cells #[.bool false, .slice A3 m3 c3, .int .i64 (e - 1)] 37)
    have k4 := (Hb2.out.below hB3).below a4
    have HS4 := (HS2.out.trans (hB3.mono HS2.out.size)).trans (a4.mono (HS2.out.trans (hB3.mono HS2.out.size)).size)
    have Hfin : Hid (NTold w ⟨false, V, e - 1⟩ 140 (.returned (.agg #[.bool false, .slice A3 m3 c3, .int .i64 (e - 1)])) (World.put (w3.alloc (.cells #[.bool false, .slice A3 m3 c3, .int .i64 (e - 1)] 37)) w.heap.size false A3 m3 c3 (e - 1))) :=
      ⟨A3, m3, c3, rs, rfl, hm4, k4.dig (hl3.below a4) _ _ _ _ _, hd3, hv3, below_put HS4 (Nat.le_refl _) _ _ _ _ _⟩
    have kk := Hb2.out.below hB3
    have y0 := fun o => (kk.alloc o).c0
    have y1 := fun o => (kk.alloc o).c1
    have y2 := fun o => (kk.alloc o).c2
    have yf := fun o => (kk.alloc o).fz
    clear a4 k4 kk HS4 hl3 hd3 hv3 hB3 Hb2 HS2 H3 Hlt
    go_wp2
    exact bodyPost_ret (v := .agg #[.bool false, .slice A3 m3 c3, .int .i64 (e - 1)]) (by simp [results, Tryd.results34, go_sem, y0, y1, y2]) rfl Hfin.out
end Go.Proofs.YtgacafdkhailmaaDoor

/- The walk of planimeterref05.To of a number that isn't 0; the document's Middle of layer 8; planimeterlaw08.worth. -/
namespace Go.Proofs.YtgacafdkhailmaaDoor
open Go.RowKit

theorem RelTg.of {w : World} {g : Bool} {V : Nat} {E : Int} {A : Option Addr} {m c : Nat} {ds : List Nat} {u : World} (dg : Bool) (dE : Int) (h : HoldT w g A m c ds E u) {p : Nat} (hp : w.heap.size + 1 < p) {g0 : Bool} {A0 : Option Addr} {n0 c0 : Nat} {e0 : Int} (hB : Bd u p 37 g0 A0 n0 c0 e0) {A5 : Option Addr} {m5 c5 : Nat} {es : List Nat} (hl : Dig u A5 m5 c5 es) (hd : D.Bare es) (hv : D.val es = V) (hm : m5 ≤ 200) : RelT w dg V dE p A5 m5 c5 es (World.put u p dg A5 m5 c5 dE) :=
  ⟨hB.put _ _ _ _ _, h.2.1.other (by omega) _ _ _ _ _, hB.dig hl _ _ _ _ _, hd, hv, hm, hp, below_put h.2.2.2 (by omega) _ _ _ _ _⟩

set_option maxHeartbeats 4000000 in
theorem rto_gen (g : Bool) (V : Nat) (E : Int) (dg : Bool) (dV : Nat) (dE : Int) (A : Option Addr) (m c : Nat) (ds : List Nat) (w : World) (hA : Dig w A m c ds) (hd : D.Bare ds) (hv : D.val ds = V) (hm : m ≤ 160) (hN : nO g V E = ⟨dg, dV, dE⟩) (hV0 : dV ≠ 0) (hE1 : -1073741824 ≤ dE) (hE2 : dE ≤ 1073741824) :
    Calls Tryd.prog 35 #[.agg #[.bool g, .slice A m c, .int .i64 E]] w (TTold w ⟨dg, dV, dE⟩ 50) := by
  have a3 : Below w.heap.size w ((w.alloc (.cells #[.bool g, .slice A m c, .int .i64 E] 37)).alloc (.cells #[.bool false, .slice none 0 0, .int .i64 0] 41)) := ((Below.refl _ _).alloc (Nat.le_refl _) _).alloc (by simp) _
  have b1 := (Bd.new w 37 g A m c E).alloc (.cells #[.bool false, .slice none 0 0, .int .i64 0] 41)
  have b2 := Bd.new (w.alloc (.cells #[.bool g, .slice A m c, .int .i64 E] 37)) 41 false none 0 0 0
  rw [World.size_alloc] at b2
  have h0 : HoldT w g A m c ds E ((w.alloc (.cells #[.bool g, .slice A m c, .int .i64 E] 37)).alloc (.cells #[.bool false, .slice none 0 0, .int .i64 0] 41)) := ⟨b1, b2, hA.below a3, a3⟩
  have F0 := Lib.hid (h0.below (below_drew _))
  have F0c := Lib.hid F0.out.cells
  have F1 := Lib.hid ((h0.below (below1 _ (.cells #[.bool false, .slice none 0 0, .int .i64 0] 37))).below (below_drew _))
  have F1c := Lib.hid F1.out.cells
  have z1 := Bd.new ((w.alloc (.cells #[.bool g, .slice A m c, .int .i64 E] 37)).alloc (.cells #[.bool false, .slice none 0 0, .int .i64 0] 41)) 37 false none 0 0 0
  rw [World.size_alloc, World.size_alloc] at z1
  have Z1 := Lib.hid z1.drew
  have HL : Hid (∀ u, HoldT w g A m c ds E u → Calls Tryd.prog 60 #[.slice A m c] u (Tells u V ((m + 3) / 4))) := fun u hu => by
    have := limbs_t A m c ds u hu.2.2.1 hd (by omega)
    rw [hv] at this
    exact this
  have HO : Hid (∀ u A1 m1 c1 zs, Lim u A1 m1 c1 zs → val zs = V → m1 ≤ 50 → Calls Tryd.prog 16 #[.agg #[.bool g, .slice A1 m1 c1, .int .i64 E]] u (NTold u ⟨dg, dV, dE⟩ (4 * m1))) := fun u A1 m1 c1 zs h1 h2 h3 => by
    have := rof_any g A1 m1 c1 zs E u h1 (by omega)
    rw [h2, hN] at this
    exact this
  clear a3 b1 b2 hA h0 z1 hN hd hv
  go_enter Tryd.func35, Tryd.ntmps35
  go_wp2_with fail
  go_cut [4] from 5 (fun s4 wx => ∃ (p m5 c5 : Nat) (A5 : Option Addr) (es : List Nat), s4 = .pointer (some ⟨p, 0, none⟩) ∧ Hid (RelT w dg dV dE p A5 m5 c5 es wx))
  case first =>
    go_region_held3 (fun w' => w'.cell? ⟨w.heap.size, 0, none⟩ = some (.bool g) ∧ w'.cell? ⟨w.heap.size, 1, none⟩ = some (.slice A m c) ∧ w'.cell? ⟨w.heap.size, 2, none⟩ = some (.int .i64 E))
      (first | (with_reducible exact F0c.out) | (with_reducible exact F1c.out) | (with_reducible exact K1.out) | (with_reducible exact K1a.out _) | (with_reducible exact K2.out) | (with_reducible exact K2a.out _) | (with_reducible exact K2b.out))
      (first
        | (go_at_call 60; (with_reducible refine (HL.out _ F0.out).mono ?_); rintro e w1 ⟨A1, m1, c1, zs, rfl, hm1, hl1, hb1, hv1, hB1⟩; have h1 := F0.out.below hB1; have K1 := Lib.hid h1.cells; have K1a : Hid (∀ o, CellsT w g A m c E (w1.alloc o)) := fun o => (h1.below (below1 _ o)).cells; have h1 := Lib.hid h1; have L1 : Hid (Lim w1 A1 m1 c1 zs ∧ val zs = V) := ⟨hl1, hv1⟩; clear hl1 hb1 hv1 hB1)
        | (go_at_call 60; (with_reducible refine (HL.out _ F1.out).mono ?_); rintro e w1 ⟨A1, m1, c1, zs, rfl, hm1, hl1, hb1, hv1, hB1⟩; have g1 := F1.out.below hB1; have K1 := Lib.hid g1.cells; have G1 := Lib.hid (Z1.out.below hB1); have g1 := Lib.hid g1; have M1 : Hid (Lim w1 A1 m1 c1 zs ∧ val zs = V) := ⟨hl1, hv1⟩; clear hl1 hb1 hv1 hB1)
        | (go_at_call 16; (with_reducible refine (HO.out w1 A1 m1 c1 zs L1.out.1 L1.out.2 (by omega)).mono ?_); rintro e w2 ⟨A2, m2, c2, es, rfl, hm2, hl2, hd2, hv2, hB2⟩; have h2 := h1.out.below hB2; have K2 := Lib.hid h2.cells; have K2a : Hid (∀ o, CellsT w g A m c E (w2.alloc o)) := fun o => (h2.below (below1 _ o)).cells; have hsz : w.heap.size + 1 < w2.heap.size := h2.2.1.lt; have q2 := h2.below (below1 _ (.cells #[.bool false, .slice none 0 0, .int .i64 0] 37)); have z2 := Bd.new w2 37 false none 0 0 0; have u0 := z2.c0; have u1 := z2.c1; have u2 := z2.c2; have uf := z2.fz; have K2b := Lib.hid (q2.put hsz z2 dg A2 m2 c2 dE).cells; have Fin0 : Hid (RelT w dg dV dE w2.heap.size A2 m2 c2 es (w2.alloc (.cells #[.bool dg, .slice A2 m2 c2, .int .i64 dE] 37))) := ⟨Bd.new w2 _ _ _ _ _ _, h2.2.1.alloc _, hl2.alloc _, hd2, hv2, by omega, hsz, h2.2.2.2.trans ((below1 w2 _).mono h2.2.2.2.size)⟩; clear q2 z2 hl2 hd2 hv2 hB2 h2)
        | (go_at_call 16; (with_reducible refine (HO.out (w1.alloc (.cells #[.bool false, .slice none 0 0, .int .i64 0] 37)) A1 m1 c1 zs (L1.out.1.alloc _) L1.out.2 (by omega)).mono ?_); rintro e w2 ⟨A2, m2, c2, es, rfl, hm2, hl2, hd2, hv2, hB2⟩; have h2 := (h1.out.below (below1 _ (.cells #[.bool false, .slice none 0 0, .int .i64 0] 37))).below hB2; have K2 := Lib.hid h2.cells; have hsz : w.heap.size + 1 < w1.heap.size := h1.out.2.1.lt; have z2 := (Bd.new w1 37 false none 0 0 0).below hB2; have u0 := z2.c0; have u1 := z2.c1; have u2 := z2.c2; have uf := z2.fz; have K2b := Lib.hid (h2.put hsz z2 dg A2 m2 c2 dE).cells; have Fin1 := Lib.hid (RelTg.of dg dE h2 hsz z2 hl2 hd2 hv2 (by omega)); clear z2 hl2 hd2 hv2 hB2 h2)
        | (go_at_call 16; (with_reducible refine (HO.out w1 A1 m1 c1 zs M1.out.1 M1.out.2 (by omega)).mono ?_); rintro e w2 ⟨A2, m2, c2, es, rfl, hm2, hl2, hd2, hv2, hB2⟩; have h2 := g1.out.below hB2; have K2 := Lib.hid h2.cells; have hsz : w.heap.size + 1 < w.heap.size + 1 + 1 := Nat.lt_succ_self _; have z2 := G1.out.below hB2; have u0 := z2.c0; have u1 := z2.c1; have u2 := z2.c2; have uf := z2.fz; have K2b := Lib.hid (h2.put hsz z2 dg A2 m2 c2 dE).cells; have Fin1 := Lib.hid (RelTg.of dg dE h2 hsz z2 hl2 hd2 hv2 (by omega)); clear z2 hl2 hd2 hv2 hB2 h2))
    all_goals (go_wp2_with fail)
    all_goals go_meet
    all_goals (refine ⟨_, m2, c2, A2, es, rfl, ?_⟩)
    all_goals (first | (with_reducible exact Fin1) | (with_reducible exact Fin0))
  case rest =>
    obtain ⟨wA, rfl⟩ : ∃ wA, wA = wc := ⟨_, rfl⟩
    obtain ⟨p, m5, c5, A5, es, rfl, HR⟩ := hcut
    have x0 := HR.out.1.c0
    have x1 := HR.out.1.c1
    have x2 := HR.out.1.c2
    clear F0 F0c F1 F1c Z1 HL HO
    go_wp2_with fail
    refine (fits_yes dg A5 m5 c5 dE wA hE1 hE2).mono ?_
    rintro e w2 ⟨rfl, hB2⟩
    have HR2 := Lib.hid (HR.out.below hB2)
    have y0 := HR2.out.1.c0
    have y1 := HR2.out.1.c1
    have y2 := HR2.out.1.c2
    have z0 := HR2.out.2.1.c0
    have z1 := HR2.out.2.1.c1
    have z2 := HR2.out.2.1.c2
    have zf := HR2.out.2.1.fz
    have hV5 := HR2.out.2.2.2.2.1
    have hL5 := HR2.out.2.2.1.len
    have hm5 := HR2.out.2.2.2.2.2.1
    clear HR hB2 x0 x1 x2
    have hm0 : m5 ≠ 0 := by
      intro h
      apply hV0
      rw [← hV5]
      rw [h] at hL5
      rw [List.eq_nil_of_length_eq_zero hL5]; rfl
    have c0 : ((m5 : Int) == 0) = false := beq_no (by omega)
    have h9 := HR2.out.below (below_drew _)
    have H9 := limbs_t A5 m5 c5 es _ h9.2.2.1 h9.2.2.2.1 (by omega)
    rw [hV5] at H9
    have H9 := Lib.hid H9
    have K0 := Lib.hid (And.intro h9.1.c0 (And.intro h9.1.c1 h9.1.c2))
    have h9 := Lib.hid h9
    clear hV5 hL5 hV0 hm0
    go_wp2_with fail
    go_region_held3 (fun w' => w'.cell? ⟨p, 0, none⟩ = some (.bool dg) ∧ w'.cell? ⟨p, 1, none⟩ = some (.slice A5 m5 c5) ∧ w'.cell? ⟨p, 2, none⟩ = some (.int .i64 dE))
      (first | (with_reducible exact K0.out) | (with_reducible exact K1.out) | (with_reducible exact K2.out))
      (first | (go_at_call 60; (with_reducible refine H9.out.mono ?_); rintro e w3 ⟨A6, m6, c6, zs, rfl, hm6, hl6, hb6, hv6, hB6⟩; have h3 := h9.out.below hB6; have K1 := Lib.hid (And.intro h3.1.c0 (And.intro h3.1.c1 h3.1.c2)); have q3 := h3.1.other (b' := w.heap.size + 1) (by have := h3.2.2.2.2.2.2.1; omega) dg A6 m6 c6 dE; have K2 := Lib.hid (And.intro q3.c0 (And.intro q3.c1 q3.c2)); have u0 := h3.2.1.c0; have u1 := h3.2.1.c1; have u2 := h3.2.1.c2; have uf := h3.2.1.fz; have Hfin : Hid (TTold w ⟨dg, dV, dE⟩ 50 (.returned (.tuple #[.agg #[.bool dg, .slice A6 m6 c6, .int .i64 dE], .int .i64 0])) (World.put w3 (w.heap.size + 1) dg A6 m6 c6 dE)) := ⟨A6, m6, c6, zs, rfl, by omega, h3.2.1.lim hl6 _ _ _ _ _, hb6, hv6, below_put h3.2.2.2.2.2.2.2 (Nat.le_succ _) _ _ _ _ _⟩; clear q3 h3 hl6 hb6 hv6 hB6))
    all_goals (
      clear K0 K1 K2 h9 H9 HR2 y0 y1 y2 z0 z1 z2 zf
      go_wp2_with fail
      exact bodyPost_ret (v := .tuple #[.agg #[.bool dg, .slice A6 m6 c6, .int .i64 dE], .int .i64 0]) (by simp [results, Tryd.results35, go_sem, u0, u1, u2]) rfl Hfin.out)

theorem nO_of_size (g : Bool) {V U m : Nat} {E f : Int} (hV : V ≠ 0) (h1 : -1073741824 ≤ E) (h2 : E ≤ 1073741824) (hU : U = 2 * m + 1) (h3 : -1073741824 ≤ f) (h4 : f ≤ 1073741824) (h : sz V E = sz U f) : nO g V E = ⟨g, U, f⟩ := by
  obtain ⟨q, hq⟩ := low_spec (Nat.pos_of_ne_zero hV)
  unfold sz at h
  obtain ⟨l, hl⟩ : ∃ l, low V = l := ⟨_, rfl⟩
  rw [hl] at hq
  have l1 : low (V * 2 ^ sh E) = l + sh E := low_eq (m := q) (by rw [hq, Nat.pow_add, Nat.mul_right_comm])
  have l2 : low (U * 2 ^ sh f) = sh f := low_eq (m := m) (by rw [hU, Nat.mul_comm])
  have l3 : l + sh E = sh f := by rw [← l1, h, l2]
  rw [← l3, Nat.pow_add, ← Nat.mul_assoc] at h
  have h5 := Nat.eq_of_mul_eq_mul_right (Nat.two_pow_pos _) h
  have b1 := sh_eq h1 h2
  have b2 := sh_eq h3 h4
  rw [nO_pos _ _ hV, hl, h5, Nat.mul_div_cancel _ (Nat.two_pow_pos _), held_id h1 h2, show E + (l : Int) = f by omega]

/-- The document's Middle. -/
theorem mid8_spec {b x : Nat} (hf : Fnt b) (hx : b % 9223372036854775808 = x) : ∃ (V : Nat) (E : Int), (∀ g, nO g V E = ⟨g, 2 * fm b + 1, fe b - 1⟩) ∧
    ∀ w, Calls Tryd.prog 14 #[.int .u64 (b : Int)] w (NTold w ⟨false, V, E⟩ 140) := by
  have hl := fin_lt hf
  have hbd := fe_bd hf
  have hs := mid_size hf
  rw [hx] at hl hs
  obtain ⟨V, E, h1, h2, h3, h4, h5⟩ := mid_spec hl
  refine ⟨V, E, fun g => nO_of_size g h1 h2 h3 (m := fm b) rfl (by omega) (by omega) (by omega), fun w => ?_⟩
  have a1 := below1 w (.cells #[.bool false, .slice none 0 0, .int .i64 0] 37)
  have HS := Lib.hid a1
  have Hb := Lib.hid (Bd.new w 37 false none 0 0 0)
  have H1 := rsize_any b (w.alloc (.cells #[.bool false, .slice none 0 0, .int .i64 0] 37))
  rw [hx] at H1
  have H1 := Lib.hid H1
  have H2 := Lib.hid (h5 (w.alloc (.cells #[.bool false, .slice none 0 0, .int .i64 0] 37)))
  clear a1 hf hx hbd hs h1 h2 h3 h4 h5
  go_enter Tryd.func14, Tryd.ntmps14
  go_wp2_with fail
  refine H1.out.mono ?_
  rintro e w' ⟨rfl, rfl⟩
  go_wp2_with fail
  refine H2.out.mono ?_
  rintro e w2 ⟨A2, m2, c2, es, rfl, hm2, hl2, hd2, hv2, hB2⟩
  have k2 := Hb.out.below hB2
  have Hfin : Hid (NTold w ⟨false, V, E⟩ 140 (.returned (.agg #[.bool false, .slice A2 m2 c2, .int .i64 E])) (World.put w2 w.heap.size false A2 m2 c2 E)) :=
    ⟨A2, m2, c2, es, rfl, hm2, k2.dig hl2 _ _ _ _ _, hd2, hv2, below_put (HS.out.trans (hB2.mono HS.out.size)) (Nat.le_refl _) _ _ _ _ _⟩
  have y0 := k2.c0
  have y1 := k2.c1
  have y2 := k2.c2
  have yf := k2.fz
  clear k2 hB2 hl2 hd2 hv2 H1 H2 Hb HS
  go_wp2
  exact bodyPost_ret (v := .agg #[.bool false, .slice A2 m2 c2, .int .i64 E]) (by simp [results, Tryd.results14, go_sem, y0, y1, y2]) rfl Hfin.out

set_option maxHeartbeats 1000000 in
theorem nworth_l (g : Bool) (U : Nat) (f : Int) (A : Option Addr) (n c : Nat) (V : Nat) (E : Int) (B : Option Addr) (m d : Nat) (ds : List Nat) (w : World) (hU0 : U ≠ 0) (hU9 : U < 18446744073709551616) (hf1 : -1073741824 ≤ f) (hf2 : f ≤ 1073741824) (hA : Lim w A n c [U]) (hB : Dig w B m d ds) (hd : D.Bare ds) (hv : D.val ds = V) (hm : m ≤ 160) (hN : nO g V E = ⟨g, U, f⟩) :
    Calls Tryd.prog 15 #[.agg #[.bool g, .slice A n c, .int .i64 f], .agg #[.bool g, .slice B m d, .int .i64 E]] w fun e w' => e = .returned (.bool true) ∧ Below w.heap.size w w' := by
  have a2 : Below w.heap.size w ((w.alloc (.cells #[.bool g, .slice A n c, .int .i64 f] 28)).alloc (.cells #[.bool g, .slice B m d, .int .i64 E] 37)) := ((Below.refl _ _).alloc (Nat.le_refl _) _).alloc (by simp) _
  have b1 := (Bd.new w 28 g A n c f).alloc (.cells #[.bool g, .slice B m d, .int .i64 E] 37)
  have H1 := Lib.hid (rto_gen g V E g U f B m d ds _ (hB.below a2) hd hv hm hN hU0 hf1 hf2)
  have HA := Lib.hid (hA.below a2)
  have HS := Lib.hid a2
  have HB1 := Lib.hid b1
  obtain rfl : n = 1 := hA.len.symm
  clear a2 b1 hA hB hd hv hN
  go_enter Tryd.func15, Tryd.ntmps15
  go_wp2_with fail
  refine H1.out.mono ?_
  rintro e w3 ⟨A3, m3, c3, us, rfl, hm3, hl3, hb3, hv3, hB3⟩
  obtain rfl : us = [U] := bare_eq hl3.words (Words.one hU9) hb3 (bare_one hU0) (hv3.trans (val_single _).symm)
  obtain rfl : m3 = 1 := hl3.len.symm
  have a4 := below1 w3 (.cells #[.bool g, .slice A3 1 c3, .int .i64 f] 41)
  have H4 := Lib.hid (fsame_yes g A 1 c [U] f A3 c3 _ ((HA.out.below hB3).below a4) (hl3.below a4) (by decide))
  have s3 := HS.out.trans (hB3.mono HS.out.size)
  have HS4 := Lib.hid (s3.trans (a4.mono s3.size))
  have k1 := (HB1.out.below hB3).below a4
  have k2 := Bd.new w3 41 g A3 1 c3 f
  have x0 := k1.c0
  have x1 := k1.c1
  have x2 := k1.c2
  have y0 := k2.c0
  have y1 := k2.c1
  have y2 := k2.c2
  clear a4 s3 k1 k2 hl3 hb3 hv3 hB3 H1 HA HS HB1
  go_wp2_with fail
  refine H4.out.mono ?_
  rintro e w5 ⟨rfl, hb5⟩
  have Hfin := Lib.hid (HS4.out.trans (hb5.mono HS4.out.size))
  clear hb5 HS4 H4 x0 x1 x2 y0 y1 y2
  go_wp2
  go_ret
  exact ⟨rfl, Hfin.out⟩
end Go.Proofs.YtgacafdkhailmaaDoor

/- The walk of NextTells (written by law_ntells.py). -/
namespace Go.Proofs.YtgacafdkhailmaaDoor
open Go.RowKit

/-- Three dyads in their blocks. -/
def HoldD3 (w : World) (p : Nat) (g : Bool) (A : Option Addr) (n c : Nat) (xs : List Nat) (e1 : Int) (q : Nat) (k : Bool) (B : Option Addr) (m d : Nat) (ys : List Nat) (e2 : Int) (r : Nat) (j : Bool) (C : Option Addr) (l i : Nat) (us : List Nat) (e3 : Int) (u : World) : Prop :=
  HoldD2 w p g A n c xs e1 q k B m d ys e2 u ∧ Bd u r 28 j C l i e3 ∧ Lim u C l i us
abbrev Cells3 (w : World) (p : Nat) (g : Bool) (A : Option Addr) (n c : Nat) (xs : List Nat) (e1 : Int) (q : Nat) (k : Bool) (B : Option Addr) (m d : Nat) (ys : List Nat) (e2 : Int) (r : Nat) (j : Bool) (C : Option Addr) (l i : Nat) (us : List Nat) (e3 : Int) (w' : World) : Prop :=
  w'.cell? ⟨q, 0, none⟩ = some (.bool k) ∧ w'.cell? ⟨q, 1, none⟩ = some (.slice B m d) ∧ w'.cell? ⟨q, 2, none⟩ = some (.int .i64 e2) ∧ w'.cell? ⟨r, 0, none⟩ = some (.bool j) ∧ w'.cell? ⟨r, 1, none⟩ = some (.slice C l i) ∧ w'.cell? ⟨r, 2, none⟩ = some (.int .i64 e3) ∧ Hid (HoldD3 w p g A n c xs e1 q k B m d ys e2 r j C l i us e3 w')
section
variable {w : World} {p : Nat} {g : Bool} {A : Option Addr} {n c : Nat} {xs : List Nat} {e1 : Int} {q : Nat} {k : Bool} {B : Option Addr} {m d : Nat} {ys : List Nat} {e2 : Int} {r : Nat} {j : Bool} {C : Option Addr} {l i : Nat} {us : List Nat} {e3 : Int} {u u' : World}
theorem HoldD3.below (h : HoldD3 w p g A n c xs e1 q k B m d ys e2 r j C l i us e3 u) (hb : Below u.heap.size u u') : HoldD3 w p g A n c xs e1 q k B m d ys e2 r j C l i us e3 u' := ⟨h.1.below hb, h.2.1.below hb, h.2.2.below hb⟩
theorem HoldD3.cells (h : HoldD3 w p g A n c xs e1 q k B m d ys e2 r j C l i us e3 u) : Cells3 w p g A n c xs e1 q k B m d ys e2 r j C l i us e3 u := ⟨h.1.2.1.c0, h.1.2.1.c1, h.1.2.1.c2, h.2.1.c0, h.2.1.c1, h.2.1.c2, h⟩
end
theorem HoldD3.start {w : World} {p : Nat} {g : Bool} {A : Option Addr} {n c : Nat} {xs : List Nat} {e1 : Int} {u : World} (h : HoldD w p g A n c xs e1 u) (k : Bool) (B : Option Addr) (m d : Nat) (ys : List Nat) (e2 : Int) (hl : Lim u B m d ys) (j : Bool) (C : Option Addr) (l i : Nat) (us : List Nat) (e3 : Int) (hm : Lim u C l i us) :
    HoldD3 w p g A n c xs e1 u.heap.size k B m d ys e2 (u.heap.size + 1) j C l i us e3 ((u.alloc (.cells #[.bool k, .slice B m d, .int .i64 e2] 28)).alloc (.cells #[.bool j, .slice C l i, .int .i64 e3] 28)) := by
  have h1 := (HoldD2.start h k B m d ys e2 hl).below (below1 _ (.cells #[.bool j, .slice C l i, .int .i64 e3] 28))
  have h2 := Bd.new (u.alloc (.cells #[.bool k, .slice B m d, .int .i64 e2] 28)) 28 j C l i e3
  rw [World.size_alloc] at h2
  exact ⟨h1, h2, (hm.alloc _).alloc _⟩
/-- Up and Down by the law's words. -/
theorem tells_neg {b x : Nat} (hb : b < 18446744073709551616) (hg : 9223372036854775808 ≤ b) (hx : b % 9223372036854775808 = x) (h0 : x ≠ 0) (hl : x < 9218868437227405312) : nupX b = b - 1 ∧ ndnX b = b + 1 := by
  have e1 : fng b = true := decide_eq_true hg
  have h1 : fm b ≠ 0 := fun h => h0 (hx.symm.trans ((fm_zero_iff b).1 h))
  have f1 : flp b = x := by rw [flp, e1, if_pos rfl]; omega
  have h2 : fm x ≠ 0 := fun h => by have := (fm_zero_iff x).1 h; omega
  refine ⟨by rw [nupX, if_neg h1, e1, if_pos rfl], ?_⟩
  rw [ndnX, f1, nupX, if_neg h2, show fng x = false from decide_eq_false (by omega), if_neg (by decide)]
  rw [flp, show fng (x + 1) = false from decide_eq_false (by omega), if_neg (by decide)]; omega
theorem tells_pos {b x : Nat} (hg : b < 9223372036854775808) (hx : b % 9223372036854775808 = x) (h0 : x ≠ 0) : nupX b = b + 1 ∧ ndnX b = b - 1 := by
  have e1 : fng b = false := decide_eq_false (by omega)
  have h1 : fm b ≠ 0 := fun h => h0 (hx.symm.trans ((fm_zero_iff b).1 h))
  have f1 : flp b = b + 9223372036854775808 := by rw [flp, e1, if_neg (by decide)]
  have h2 : fm (b + 9223372036854775808) ≠ 0 := fun h => by have := (fm_zero_iff _).1 h; omega
  refine ⟨by rw [nupX, if_neg h1, e1, if_neg (by decide)], ?_⟩
  rw [ndnX, f1, nupX, if_neg h2, show fng (b + 9223372036854775808) = true from decide_eq_true (by omega), if_pos rfl]
  rw [flp, show fng (b + 9223372036854775808 - 1) = true from decide_eq_true (by omega), if_pos rfl]; omega
theorem tells_nought : nupX 0 = 1 ∧ ndnX 0 = 9223372036854775809 ∧ nupX 9223372036854775808 = 1 ∧ ndnX 9223372036854775808 = 9223372036854775809 := by decide

set_option maxRecDepth 20000 in
set_option maxHeartbeats 2000000 in
theorem ntells_no (b : Nat) (hb : b < 18446744073709551616) (w : World) (hT : Tab w) (hf : ¬ Fnt b) :
    Calls Tryd.prog 3 #[.int .u64 (b : Int)] w fun e w' => e = .returned (.bool true) ∧ Below w.heap.size w w' := by
  have H1 := Lib.hid (nalive_any w hT)
  have HU : Hid (∀ u, Calls Tryd.prog 8 #[.int .u64 (b : Int)] u fun e w' => e = .returned (.tuple #[.int .u64 0, .bool false]) ∧ u = w') := fun u => up_no b hb u hf
  have HD : Hid (∀ u, Calls Tryd.prog 9 #[.int .u64 (b : Int)] u fun e w' => e = .returned (.tuple #[.int .u64 0, .bool false]) ∧ u = w') := fun u => down_no b hb u hf
  have HM := Lib.hid (fun u => mid_no b hb u hf)
  have HB := Lib.hid (fun u => beside_no b hb u (Or.inr hf))
  obtain ⟨v, hv⟩ : ∃ v, fkd b = v := ⟨_, rfl⟩
  have hv2 : 2 < v := by
    have h2 := fkd_fin b
    rw [hv] at h2
    rcases Nat.lt_or_ge 2 v with h | h
    · exact h
    · exact absurd (h2.1 h) hf
  have Hv := Lib.hid hv
  have c1 : decide ((2 : Int) < (v : Int)) = true := decide_eq_true (by omega)
  have c2 : decide (2 < v) = true := decide_eq_true hv2
  clear hf hT hv hv2
  go_enter Tryd.func3, Tryd.ntmps3
  go_wp2_with fail
  refine H1.out.mono ?_
  rintro e w1 ⟨rfl, hb1⟩
  have HS1 := Lib.hid hb1
  clear hb1 H1
  go_wp2_with fail
  refine (HU.out _).mono ?_
  rintro e w' ⟨rfl, rfl⟩
  go_wp2_with fail
  refine (HD.out _).mono ?_
  rintro e w' ⟨rfl, rfl⟩
  go_wp2_with fail
  refine (HM.out _).mono ?_
  rintro e w2 ⟨rfl, hb2⟩
  have s2 := HS1.out.trans (hb2.mono HS1.out.size)
  have HS2 := Lib.hid (s2.trans ((below1 w2 (.cells #[.bool false, .slice none 0 0, .int .i64 0] 28)).mono s2.size))
  have K2 := Lib.hid (Bd.new w2 28 false none 0 0 0)
  clear hb2 s2 HS1 HU HD HM
  go_wp2_with fail
  refine (HB.out _).mono ?_
  rintro e w3 ⟨rfl, hb3⟩
  have s3 := HS2.out.trans (hb3.mono HS2.out.size)
  have s4 := s3.trans ((below1 w3 (.cells #[.bool false, .slice none 0 0, .int .i64 0] 28)).mono s3.size)
  have HS3 := Lib.hid (s4.trans ((below1 (w3.alloc (.cells #[.bool false, .slice none 0 0, .int .i64 0] 28)) (.cells #[.bool false, .slice none 0 0, .int .i64 0] 28)).mono s4.size))
  have k2 := ((K2.out.below hb3).alloc (.cells #[.bool false, .slice none 0 0, .int .i64 0] 28)).alloc (.cells #[.bool false, .slice none 0 0, .int .i64 0] 28)
  have k3 := (Bd.new w3 28 false none 0 0 0).alloc (.cells #[.bool false, .slice none 0 0, .int .i64 0] 28)
  have k4 := Bd.new (w3.alloc (.cells #[.bool false, .slice none 0 0, .int .i64 0] 28)) 28 false none 0 0 0
  rw [World.size_alloc] at k4
  have x1 := k2.c1
  have y1 := k3.c1
  have z1 := k4.c1
  clear hb3 s3 s4 k2 k3 k4 HS2 K2 HB
  go_wp2_with fail
  refine (rkind_l v b hb _ Hv).mono ?_
  rintro e w' ⟨rfl, rfl⟩
  go_wp2
  go_ret
  exact ⟨rfl, HS3.out⟩


set_option maxRecDepth 20000 in
set_option maxHeartbeats 4000000 in
theorem ntells_nought (b x : Nat) (hb : b < 18446744073709551616) (w : World) (hT : Tab w) (hf : Fnt b) (hx : b % 9223372036854775808 = x) (h0 : x = 0) :
    Calls Tryd.prog 3 #[.int .u64 (b : Int)] w fun e w' => e = .returned (.bool true) ∧ Below w.heap.size w w' := by
  have H1 := Lib.hid (nalive_any w hT)
  have HT := Lib.hid hT
  obtain ⟨mV, hmV⟩ : ∃ m, 2 * fm b + 1 = m := ⟨_, rfl⟩
  obtain ⟨mE, hmE⟩ : ∃ m, fe b - 1 = m := ⟨_, rfl⟩
  have hmV0 : mV ≠ 0 := by omega
  have hmV9 : mV < 18446744073709551616 := by have := (f_parts b).2.1; omega
  have hmE1 : -2000 ≤ mE := by have := fe_bd hf; omega
  have hmE2 : mE ≤ 2000 := by have := fe_bd hf; omega
  obtain ⟨sg, hsg⟩ : ∃ s, fng b = s := ⟨_, rfl⟩
  obtain ⟨U, hU⟩ : ∃ U, nupX b = U := ⟨_, rfl⟩
  obtain ⟨Dn, hDn⟩ : ∃ D, ndnX b = D := ⟨_, rfl⟩
  have hfm : fm b = 0 := (fm_zero_iff b).2 (hx.trans h0)
  have HB := Lib.hid (fun s => beside_no b hb s (Or.inl hfm))
  have hUD : U = 1 ∧ Dn = 9223372036854775809 ∧ ((b = 0 ∧ sg = false) ∨ (b = 9223372036854775808 ∧ sg = true)) := by
    have hb2 : b = 0 ∨ b = 9223372036854775808 := by omega
    obtain ⟨t1, t2, t3, t4⟩ := tells_nought
    rcases hb2 with rfl | rfl
    · exact ⟨hU.symm.trans t1, hDn.symm.trans t2, Or.inl ⟨rfl, hsg.symm.trans (by decide)⟩⟩
    · exact ⟨hU.symm.trans t3, hDn.symm.trans t4, Or.inr ⟨rfl, hsg.symm.trans (by decide)⟩⟩
  obtain ⟨hU1, hD1, hsig⟩ := hUD
  have hUb : U < 18446744073709551616 := by rw [← hU]; exact nup_lt hb hf
  have HU : Hid (∀ s, Calls Tryd.prog 8 #[.int .u64 (b : Int)] s fun e w' => e = .returned (.tuple #[.int .u64 (U : Int), .bool true]) ∧ s = w') := fun s => up_yes U b hb s hf hU
  have HD : Hid (∀ s, Calls Tryd.prog 9 #[.int .u64 (b : Int)] s fun e w' => e = .returned (.tuple #[.int .u64 (Dn : Int), .bool true]) ∧ s = w') := fun s => down_yes Dn b hb s hf hDn
  have HM : Hid (∀ s, Tab s → Calls Tryd.prog 10 #[.int .u64 (b : Int)] s (FTold s ⟨sg, mV, mE⟩ 1)) := fun s hs => by rw [← hmV, ← hmE, ← hsg]; exact mid_yes b hb s hs hf
  obtain ⟨v, hv⟩ : ∃ v, fkd b = v := ⟨_, rfl⟩
  have hv2 : v ≤ 2 := by rw [← hv]; exact (fkd_fin b).2 hf
  have Hv := Lib.hid hv
  have c1 : decide ((2 : Int) < (v : Int)) = false := decide_eq_false (by omega)
  have c2 : decide (2 < v) = false := decide_eq_false (by omega)
  have Hx : Hid (∀ s, Calls Tryd.prog 13 #[.int .u64 (b : Int)] s fun e w' => e = .returned (.int .u64 (x : Int)) ∧ s = w') := fun s => by
    have h := rsize_any b s
    rw [hx] at h
    exact h
  obtain ⟨V, E, h8, h9⟩ := mid8_spec hf hx
  rw [hmV, hmE] at h8
  have H8 := Lib.hid h8
  have H9 := Lib.hid h9
  have hxl := fin_lt hf
  rw [hx] at hxl
  have r1 : ((U : Int) != (U : Int)) = false := bne_no rfl
  have r2 : ((Dn : Int) != (Dn : Int)) = false := bne_no rfl
  subst h0
  clear hT hf hx hU hDn hmV hmE hsg hv h8 h9 hfm hv2 hUb r1 r2 hxl
  subst hU1 hD1
  go_enter Tryd.func3, Tryd.ntmps3
  go_wp2_with fail
  refine H1.out.mono ?_
  rintro e w1 ⟨rfl, hb1⟩
  have HS1 := Lib.hid hb1
  have HT1 := Lib.hid (HT.out.below hb1)
  clear hb1 H1 HT
  go_wp2_with fail
  refine (HU.out _).mono ?_
  rintro e w' ⟨rfl, rfl⟩
  go_wp2_with fail
  refine (HD.out _).mono ?_
  rintro e w' ⟨rfl, rfl⟩
  go_wp2_with fail
  refine (HM.out _ HT1.out).mono ?_
  rintro e w2 ⟨A2, m2, d2, zs, rfl, hm2, hl2, hb2, hv2, hB2⟩
  obtain rfl : zs = [mV] := bare_eq hl2.words (Words.one hmV9) hb2 (bare_one hmV0) (hv2.trans (val_single _).symm)
  obtain rfl : m2 = 1 := hl2.len.symm
  have a2 := below1 w2 (.cells #[.bool sg, .slice A2 1 d2, .int .i64 mE] 28)
  have hk : HoldD w w2.heap.size sg A2 1 d2 [mV] mE (w2.alloc (.cells #[.bool sg, .slice A2 1 d2, .int .i64 mE] 28)) := by
    have s1 := HS1.out.trans (hB2.mono HS1.out.size)
    exact ⟨Bd.new w2 _ _ _ _ _ _, hl2.below a2, (HT1.out.below hB2).below a2, s1.trans (a2.mono s1.size)⟩
  have K2 := Lib.hid hk
  clear hl2 hb2 hv2 hB2 a2 hk HS1 HT1 HU HD HM
  go_wp2_with fail
  refine (HB.out _).mono ?_
  rintro e w3 ⟨rfl, hb3⟩
  have K3 := Lib.hid (((K2.out.below hb3).below (below1 w3 (.cells #[.bool false, .slice none 0 0, .int .i64 0] 28))).below (below1 _ (.cells #[.bool false, .slice none 0 0, .int .i64 0] 28)))
  clear hb3 K2 HB
  go_wp2_with fail
  refine (rkind_l v b hb _ Hv).mono ?_
  rintro e w' ⟨rfl, rfl⟩
  go_wp2_with fail
  refine (Hx.out _).mono ?_
  rintro e w' ⟨rfl, rfl⟩
  clear Hv Hx
  have x0 := K3.out.1.c0
  have x1 := K3.out.1.c1
  have x2 := K3.out.1.c2
  rcases hsig with ⟨rfl, rfl⟩ | ⟨rfl, rfl⟩
  · go_wp2_with fail
    refine (H9.out _).mono ?_
    rintro e w4 ⟨A4, m4, c4, ds, rfl, hm4, hl4, hd4, hv4, hB4⟩
    have a5 := below1 w4 (.cells #[.bool false, .slice A4 m4 c4, .int .i64 E] 37)
    have K4 := (K3.out.below hB4).below a5
    have n5 := Bd.new w4 37 false A4 m4 c4 E
    have H5 := Lib.hid (nworth_l false mV mE A2 1 d2 V E A4 m4 c4 ds _ hmV0 hmV9 (by omega) (by omega) K4.2.1 (hl4.below a5) hd4 hv4 (by omega) (H8.out false))
    have HK4 := Lib.hid K4
    clear x0 x1 x2
    have x0 := K4.1.c0
    have x1 := K4.1.c1
    have x2 := K4.1.c2
    have y0 := n5.c0
    have y1 := n5.c1
    have y2 := n5.c2
    clear K4 n5 a5 hl4 hd4 hv4 hB4 K3 H9 H8
    go_wp2_with fail
    refine H5.out.mono ?_
    rintro e w5 ⟨rfl, hb5⟩
    have Hfin := Lib.hid (fun nq => below_drewN (HK4.out.below hb5).2.2.2 nq)
    clear hb5 HK4 H5 x0 x1 x2 y0 y1 y2
    go_wp2_with fail
    go_quiet (fail)
    go_wp2_with fail
    go_ret
    exact ⟨rfl, Hfin.out _⟩
  · go_wp2_with fail
    refine (H9.out _).mono ?_
    rintro e w4 ⟨A4, m4, c4, ds, rfl, hm4, hl4, hd4, hv4, hB4⟩
    have a5 := below1 w4 (.cells #[.bool true, .slice A4 m4 c4, .int .i64 E] 37)
    have K4 := (K3.out.below hB4).below a5
    have n5 := Bd.new w4 37 true A4 m4 c4 E
    have H5 := Lib.hid (nworth_l true mV mE A2 1 d2 V E A4 m4 c4 ds _ hmV0 hmV9 (by omega) (by omega) K4.2.1 (hl4.below a5) hd4 hv4 (by omega) (H8.out true))
    have HK4 := Lib.hid K4
    clear x0 x1 x2
    have x0 := K4.1.c0
    have x1 := K4.1.c1
    have x2 := K4.1.c2
    have y0 := n5.c0
    have y1 := n5.c1
    have y2 := n5.c2
    clear K4 n5 a5 hl4 hd4 hv4 hB4 K3 H9 H8
    go_wp2_with fail
    refine H5.out.mono ?_
    rintro e w5 ⟨rfl, hb5⟩
    have Hfin := Lib.hid (fun nq => below_drewN (HK4.out.below hb5).2.2.2 nq)
    clear hb5 HK4 H5 x0 x1 x2 y0 y1 y2
    go_wp2_with fail
    go_quiet (fail)
    go_wp2_with fail
    go_ret
    exact ⟨rfl, Hfin.out _⟩

end Go.Proofs.YtgacafdkhailmaaDoor

/- The walk of NextTells, below 0 (written by law_ntells.py). -/
namespace Go.Proofs.YtgacafdkhailmaaDoor
open Go.RowKit

set_option maxRecDepth 20000 in
set_option maxHeartbeats 4000000 in
theorem ntells_neg (b x : Nat) (hb : b < 18446744073709551616) (w : World) (hT : Tab w) (hf : Fnt b) (hx : b % 9223372036854775808 = x) (hg : 9223372036854775808 ≤ b) (h0 : x ≠ 0) :
    Calls Tryd.prog 3 #[.int .u64 (b : Int)] w fun e w' => e = .returned (.bool true) ∧ Below w.heap.size w w' := by
  have H1 := Lib.hid (nalive_any w hT)
  have HT := Lib.hid hT
  obtain ⟨mV, hmV⟩ : ∃ m, 2 * fm b + 1 = m := ⟨_, rfl⟩
  obtain ⟨mE, hmE⟩ : ∃ m, fe b - 1 = m := ⟨_, rfl⟩
  have hmV0 : mV ≠ 0 := by omega
  have hmV9 : mV < 18446744073709551616 := by have := (f_parts b).2.1; omega
  have hmE1 : -2000 ≤ mE := by have := fe_bd hf; omega
  have hmE2 : mE ≤ 2000 := by have := fe_bd hf; omega
  obtain ⟨sg, hsg⟩ : ∃ s, fng b = s := ⟨_, rfl⟩
  obtain ⟨U, hU⟩ : ∃ U, nupX b = U := ⟨_, rfl⟩
  obtain ⟨Dn, hDn⟩ : ∃ D, ndnX b = D := ⟨_, rfl⟩
  obtain ⟨t1, t2⟩ := tells_neg hb hg hx h0 (by have := fin_lt hf; omega)
  have e1 : (b : Int) - 1 = (U : Int) := by omega
  have e2 : (b : Int) + 1 = (Dn : Int) := by omega
  have q1 : decide ((9223372036854775808 : Int) ≤ (b : Int)) = true := decide_eq_true (by omega)
  have q2 : decide (9223372036854775808 ≤ b) = true := decide_eq_true hg
  obtain rfl : sg = true := by rw [← hsg]; exact q2
  have hDb : Dn < 18446744073709551616 := by have := fin_lt hf; omega
  have hfm : fm b ≠ 0 := fun h => h0 (hx.symm.trans ((fm_zero_iff b).1 h))
  have hxl0 := fin_lt hf
  rw [hx] at hxl0
  obtain ⟨y, hy⟩ : ∃ y, x - 1 = y := ⟨_, rfl⟩
  have ey : (x : Int) - 1 = (y : Int) := by omega
  have hfy : Fnt y := fin_of_lt (by omega)
  have hfx : Fnt x := fin_of_lt (by omega)
  have HBy := fun s hs => beside_yes x b hb s hs hf hfm hx
  have hny : fng y = false := decide_eq_false (by omega)
  have hnx : fng x = false := decide_eq_false (by omega)
  obtain ⟨yV, hyV⟩ : ∃ m, 2 * fm y + 1 = m := ⟨_, rfl⟩
  obtain ⟨yE, hyE⟩ : ∃ m, fe y - 1 = m := ⟨_, rfl⟩
  obtain ⟨xV, hxV⟩ : ∃ m, 2 * fm x + 1 = m := ⟨_, rfl⟩
  obtain ⟨xE, hxE⟩ : ∃ m, fe x - 1 = m := ⟨_, rfl⟩
  have hyV0 : yV ≠ 0 := by omega
  have hyV9 : yV < 18446744073709551616 := by have := (f_parts y).2.1; omega
  have hyE1 : -2000 ≤ yE := by have := fe_bd hfy; omega
  have hyE2 : yE ≤ 2000 := by have := fe_bd hfy; omega
  have hxV0 : xV ≠ 0 := by omega
  have hxV9 : xV < 18446744073709551616 := by have := (f_parts x).2.1; omega
  have hxE1 : -2000 ≤ xE := by have := fe_bd hfx; omega
  have hxE2 : xE ≤ 2000 := by have := fe_bd hfx; omega
  rw [hy] at HBy
  unfold midD at HBy
  rw [hny, hnx, hyV, hyE, hxV, hxE] at HBy
  have HB : Hid (∀ s, Tab s → Calls Tryd.prog 11 #[.int .u64 (b : Int)] s (BTold s ⟨false, yV, yE⟩ ⟨false, xV, xE⟩)) := HBy
  obtain ⟨V1, E1, i1, i2⟩ := mid8_spec hfy (x := y) (Nat.mod_eq_of_lt (by omega))
  obtain ⟨V2, E2, i3, i4⟩ := mid8_spec hfx (x := x) (Nat.mod_eq_of_lt (by omega))
  rw [hyV, hyE] at i1
  rw [hxV, hxE] at i3
  have I1 := Lib.hid (i1 false)
  have I2 := Lib.hid i2
  have I3 := Lib.hid (i3 false)
  have I4 := Lib.hid i4
  have q3 : decide ((0 : Int) < (x : Int)) = true := decide_eq_true (by omega)
  have q4 : decide (0 < x) = true := decide_eq_true (by omega)
  have q5 : ((x : Int) == 0) = false := beq_no (by omega)
  have hyb : y < 18446744073709551616 := by omega
  have hwy : IntKind.u64.wrap (y : Int) = (y : Int) := by rw [IntKind.wrap_u64]; omega
  have hxb : x < 18446744073709551616 := by omega
  have hUb : U < 18446744073709551616 := by rw [← hU]; exact nup_lt hb hf
  have HU : Hid (∀ s, Calls Tryd.prog 8 #[.int .u64 (b : Int)] s fun e w' => e = .returned (.tuple #[.int .u64 (U : Int), .bool true]) ∧ s = w') := fun s => up_yes U b hb s hf hU
  have HD : Hid (∀ s, Calls Tryd.prog 9 #[.int .u64 (b : Int)] s fun e w' => e = .returned (.tuple #[.int .u64 (Dn : Int), .bool true]) ∧ s = w') := fun s => down_yes Dn b hb s hf hDn
  have HM : Hid (∀ s, Tab s → Calls Tryd.prog 10 #[.int .u64 (b : Int)] s (FTold s ⟨true, mV, mE⟩ 1)) := fun s hs => by rw [← hmV, ← hmE, ← hsg]; exact mid_yes b hb s hs hf
  obtain ⟨v, hv⟩ : ∃ v, fkd b = v := ⟨_, rfl⟩
  have hv2 : v ≤ 2 := by rw [← hv]; exact (fkd_fin b).2 hf
  have Hv := Lib.hid hv
  have c1 : decide ((2 : Int) < (v : Int)) = false := decide_eq_false (by omega)
  have c2 : decide (2 < v) = false := decide_eq_false (by omega)
  have Hx : Hid (∀ s, Calls Tryd.prog 13 #[.int .u64 (b : Int)] s fun e w' => e = .returned (.int .u64 (x : Int)) ∧ s = w') := fun s => by
    have h := rsize_any b s
    rw [hx] at h
    exact h
  obtain ⟨V, E, h8, h9⟩ := mid8_spec hf hx
  rw [hmV, hmE] at h8
  have H8 := Lib.hid h8
  have H9 := Lib.hid h9
  have hxl := fin_lt hf
  rw [hx] at hxl
  have r1 : ((U : Int) != (U : Int)) = false := bne_no rfl
  have r2 : ((Dn : Int) != (Dn : Int)) = false := bne_no rfl
  clear hT hf hx hU hDn hmV hmE hsg hv h8 h9 hfm hv2 h0 hg t1 t2 hfy hfx HBy hny hnx hyV hyE hxV hxE hxl0 hy i1 i2 i3 i4
  go_enter Tryd.func3, Tryd.ntmps3
  go_wp2_with fail
  refine H1.out.mono ?_
  rintro e w1 ⟨rfl, hb1⟩
  have HS1 := Lib.hid hb1
  have HT1 := Lib.hid (HT.out.below hb1)
  clear hb1 H1 HT
  go_wp2_with fail
  refine (HU.out _).mono ?_
  rintro e w' ⟨rfl, rfl⟩
  go_wp2_with fail
  refine (HD.out _).mono ?_
  rintro e w' ⟨rfl, rfl⟩
  go_wp2_with fail
  refine (HM.out _ HT1.out).mono ?_
  rintro e w2 ⟨A2, m2, d2, zs, rfl, hm2, hl2, hb2, hv2, hB2⟩
  obtain rfl : zs = [mV] := bare_eq hl2.words (Words.one hmV9) hb2 (bare_one hmV0) (hv2.trans (val_single _).symm)
  obtain rfl : m2 = 1 := hl2.len.symm
  have a2 := below1 w2 (.cells #[.bool true, .slice A2 1 d2, .int .i64 mE] 28)
  have hk : HoldD w w2.heap.size true A2 1 d2 [mV] mE (w2.alloc (.cells #[.bool true, .slice A2 1 d2, .int .i64 mE] 28)) := by
    have s1 := HS1.out.trans (hB2.mono HS1.out.size)
    exact ⟨Bd.new w2 _ _ _ _ _ _, hl2.below a2, (HT1.out.below hB2).below a2, s1.trans (a2.mono s1.size)⟩
  have K2 := Lib.hid hk
  clear hl2 hb2 hv2 hB2 a2 hk HS1 HT1 HU HD HM
  go_wp2_with fail
  refine (HB.out _ K2.out.2.2.1).mono ?_
  rintro e w3 ⟨A3, m3, c3, zs, B3, n3, d3, us, rfl, hm3, hn3, hl3, hl4, hba3, hba4, hv3, hv4, hb3⟩
  simp only at hv3 hv4
  obtain rfl : zs = [yV] := bare_eq hl3.words (Words.one hyV9) hba3 (bare_one hyV0) (hv3.trans (val_single _).symm)
  obtain rfl : m3 = 1 := hl3.len.symm
  obtain rfl : us = [xV] := bare_eq hl4.words (Words.one hxV9) hba4 (bare_one hxV0) (hv4.trans (val_single _).symm)
  obtain rfl : n3 = 1 := hl4.len.symm
  have h5 := HoldD3.start (K2.out.below hb3) false A3 1 c3 [yV] yE hl3 false B3 1 d3 [xV] xE hl4
  have K3 := Lib.hid h5
  clear hl3 hl4 hba3 hba4 hv3 hv4 hb3 h5 K2 HB
  go_wp2_with fail
  refine (rkind_l v b hb _ Hv).mono ?_
  rintro e w' ⟨rfl, rfl⟩
  go_wp2_with fail
  refine (Hx.out _).mono ?_
  rintro e w' ⟨rfl, rfl⟩
  clear Hv Hx
  go_wp2_with fail
  refine (H9.out _).mono ?_
  rintro e w4 ⟨A4, m4, c4, ds, rfl, hm4, hl4, hd4, hv4, hB4⟩
  have a5 := below1 w4 (.cells #[.bool true, .slice A4 m4 c4, .int .i64 E] 37)
  have K4 := (K3.out.below hB4).below a5
  have n5 := Bd.new w4 37 true A4 m4 c4 E
  have H5 := Lib.hid (nworth_l true mV mE A2 1 d2 V E A4 m4 c4 ds _ hmV0 hmV9 (by omega) (by omega) K4.1.1.2.1 (hl4.below a5) hd4 hv4 (by omega) (H8.out true))
  have HK4 := Lib.hid K4
  have x0 := K4.1.1.1.c0
  have x1 := K4.1.1.1.c1
  have x2 := K4.1.1.1.c2
  have y0 := n5.c0
  have y1 := n5.c1
  have y2 := n5.c2
  clear K4 n5 a5 hl4 hd4 hv4 hB4 K3 H9 H8
  go_wp2_with fail
  refine H5.out.mono ?_
  rintro e w5 ⟨rfl, hb5⟩
  have K5 := HK4.out.below hb5
  have K6 := Lib.hid (K5.below (below_drew _)).cells
  clear hb5 HK4 H5 K5 x0 x1 x2 y0 y1 y2 r1 r2 q1 q2 q5 hm4
  have HW1 : Hid (∀ s A6 m6 c6 ts, Cells3 w w2.heap.size true A2 1 d2 [mV] mE w3.heap.size false A3 1 c3 [yV] yE (w3.heap.size + 1) false B3 1 d3 [xV] xE s → Dig s A6 m6 c6 ts ∧ D.Bare ts ∧ D.val ts = V1 ∧ m6 ≤ 140 → Calls Tryd.prog 15 #[.agg #[.bool false, .slice A3 1 c3, .int .i64 yE], .agg #[.bool false, .slice A6 m6 c6, .int .i64 E1]] s fun e w' => e = .returned (.bool true) ∧ Cells3 w w2.heap.size true A2 1 d2 [mV] mE w3.heap.size false A3 1 c3 [yV] yE (w3.heap.size + 1) false B3 1 d3 [xV] xE w') := fun s A6 m6 c6 ts hs ht => by
    have h := hs.2.2.2.2.2.2.out
    refine (nworth_l false yV yE A3 1 c3 V1 E1 A6 m6 c6 ts s hyV0 hyV9 (by omega) (by omega) h.1.2.2 ht.1 ht.2.1 ht.2.2.1 (by omega) I1.out).mono ?_
    rintro e w' ⟨rfl, hb'⟩
    exact ⟨rfl, (h.below hb').cells⟩
  have HW2 : Hid (∀ s A6 m6 c6 ts, Cells3 w w2.heap.size true A2 1 d2 [mV] mE w3.heap.size false A3 1 c3 [yV] yE (w3.heap.size + 1) false B3 1 d3 [xV] xE s → Dig s A6 m6 c6 ts ∧ D.Bare ts ∧ D.val ts = V2 ∧ m6 ≤ 140 → Calls Tryd.prog 15 #[.agg #[.bool false, .slice B3 1 d3, .int .i64 xE], .agg #[.bool false, .slice A6 m6 c6, .int .i64 E2]] s fun e w' => e = .returned (.bool true) ∧ Cells3 w w2.heap.size true A2 1 d2 [mV] mE w3.heap.size false A3 1 c3 [yV] yE (w3.heap.size + 1) false B3 1 d3 [xV] xE w') := fun s A6 m6 c6 ts hs ht => by
    have h := hs.2.2.2.2.2.2.out
    refine (nworth_l false xV xE B3 1 d3 V2 E2 A6 m6 c6 ts s hxV0 hxV9 (by omega) (by omega) h.2.2 ht.1 ht.2.1 ht.2.2.1 (by omega) I3.out).mono ?_
    rintro e w' ⟨rfl, hb'⟩
    exact ⟨rfl, (h.below hb').cells⟩
  have HR1 : Hid (∀ s, Cells3 w w2.heap.size true A2 1 d2 [mV] mE w3.heap.size false A3 1 c3 [yV] yE (w3.heap.size + 1) false B3 1 d3 [xV] xE s → Calls Tryd.prog 14 #[.int .u64 (y : Int)] s fun e w' => ∃ (A6 : Option Addr) (m6 c6 : Nat) (ts : List Nat), e = .returned (.agg #[.bool false, .slice A6 m6 c6, .int .i64 E1]) ∧ Cells3 w w2.heap.size true A2 1 d2 [mV] mE w3.heap.size false A3 1 c3 [yV] yE (w3.heap.size + 1) false B3 1 d3 [xV] xE w' ∧ Hid (Dig w' A6 m6 c6 ts ∧ D.Bare ts ∧ D.val ts = V1 ∧ m6 ≤ 140)) := fun s hs => by
    refine (I2.out s).mono ?_
    rintro e w' ⟨A6, m6, c6, ts, rfl, k1, k2, k3, k4, k5⟩
    exact ⟨A6, m6, c6, ts, rfl, (hs.2.2.2.2.2.2.out.below k5).cells, k2, k3, k4, k1⟩
  have HR2 : Hid (∀ s, Cells3 w w2.heap.size true A2 1 d2 [mV] mE w3.heap.size false A3 1 c3 [yV] yE (w3.heap.size + 1) false B3 1 d3 [xV] xE s → Calls Tryd.prog 14 #[.int .u64 (x : Int)] s fun e w' => ∃ (A6 : Option Addr) (m6 c6 : Nat) (ts : List Nat), e = .returned (.agg #[.bool false, .slice A6 m6 c6, .int .i64 E2]) ∧ Cells3 w w2.heap.size true A2 1 d2 [mV] mE w3.heap.size false A3 1 c3 [yV] yE (w3.heap.size + 1) false B3 1 d3 [xV] xE w' ∧ Hid (Dig w' A6 m6 c6 ts ∧ D.Bare ts ∧ D.val ts = V2 ∧ m6 ≤ 140)) := fun s hs => by
    refine (I4.out s).mono ?_
    rintro e w' ⟨A6, m6, c6, ts, rfl, k1, k2, k3, k4, k5⟩
    exact ⟨A6, m6, c6, ts, rfl, (hs.2.2.2.2.2.2.out.below k5).cells, k2, k3, k4, k1⟩
  clear I1 I2 I3 I4 hyV0 hyV9 hyE1 hyE2 hxV0 hxV9 hxE1 hxE2 hmV0 hmV9 hmE1 hmE2
  go_wp2_with fail
  go_region_held3 (fun w' => w'.cell? ⟨w3.heap.size, 0, none⟩ = some (.bool false) ∧ w'.cell? ⟨w3.heap.size, 1, none⟩ = some (.slice A3 1 c3) ∧ w'.cell? ⟨w3.heap.size, 2, none⟩ = some (.int .i64 yE) ∧ w'.cell? ⟨w3.heap.size + 1, 0, none⟩ = some (.bool false) ∧ w'.cell? ⟨w3.heap.size + 1, 1, none⟩ = some (.slice B3 1 d3) ∧ w'.cell? ⟨w3.heap.size + 1, 2, none⟩ = some (.int .i64 xE) ∧ Hid (HoldD3 w w2.heap.size true A2 1 d2 [mV] mE w3.heap.size false A3 1 c3 [yV] yE (w3.heap.size + 1) false B3 1 d3 [xV] xE w'))
    (first | (with_reducible exact K6.out) | (with_reducible assumption))
    (first
      | (go_at_call 14; (with_reducible refine (HR1.out _ (by first | (with_reducible exact K6.out) | (with_reducible assumption))).mono ?_); rintro e w6 ⟨A6, m6, c6, ts, rfl, hY6, hP6⟩)
      | (go_at_call 15; (with_reducible refine (HW1.out _ A6 m6 c6 ts (by with_reducible assumption) hP6.out).mono ?_); rintro e w7 ⟨rfl, hY7⟩)
      | (go_at_call 14; (with_reducible refine (HR2.out _ (by with_reducible assumption)).mono ?_); rintro e w8 ⟨A8, m8, c8, us, rfl, hY8, hP8⟩)
      | (go_at_call 15; (with_reducible refine (HW2.out _ A8 m8 c8 us (by with_reducible assumption) hP8.out).mono ?_); rintro e w9 ⟨rfl, hY9⟩))
  all_goals (
    have Hfin := Lib.hid hY9.2.2.2.2.2.2.out.1.1.2.2.2
    clear hY6 hY7 hY8 hY9 hP6 hP8 HR1 HR2 HW1 HW2 K6
    go_wp2_with fail
    go_ret
    exact ⟨rfl, Hfin.out⟩)

end Go.Proofs.YtgacafdkhailmaaDoor

/- The walk of NextTells, above 0 (written by law_ntells.py). -/
namespace Go.Proofs.YtgacafdkhailmaaDoor
open Go.RowKit

set_option maxRecDepth 20000 in
set_option maxHeartbeats 4000000 in
theorem ntells_pos (b x : Nat) (hb : b < 18446744073709551616) (w : World) (hT : Tab w) (hf : Fnt b) (hx : b % 9223372036854775808 = x) (hg : b < 9223372036854775808) (h0 : x ≠ 0) :
    Calls Tryd.prog 3 #[.int .u64 (b : Int)] w fun e w' => e = .returned (.bool true) ∧ Below w.heap.size w w' := by
  have H1 := Lib.hid (nalive_any w hT)
  have HT := Lib.hid hT
  obtain ⟨mV, hmV⟩ : ∃ m, 2 * fm b + 1 = m := ⟨_, rfl⟩
  obtain ⟨mE, hmE⟩ : ∃ m, fe b - 1 = m := ⟨_, rfl⟩
  have hmV0 : mV ≠ 0 := by omega
  have hmV9 : mV < 18446744073709551616 := by have := (f_parts b).2.1; omega
  have hmE1 : -2000 ≤ mE := by have := fe_bd hf; omega
  have hmE2 : mE ≤ 2000 := by have := fe_bd hf; omega
  obtain ⟨sg, hsg⟩ : ∃ s, fng b = s := ⟨_, rfl⟩
  obtain ⟨U, hU⟩ : ∃ U, nupX b = U := ⟨_, rfl⟩
  obtain ⟨Dn, hDn⟩ : ∃ D, ndnX b = D := ⟨_, rfl⟩
  obtain ⟨t1, t2⟩ := tells_pos hg hx h0
  have e1 : (b : Int) + 1 = (U : Int) := by omega
  have e2 : (b : Int) - 1 = (Dn : Int) := by omega
  have q1 : decide ((9223372036854775808 : Int) ≤ (b : Int)) = false := decide_eq_false (by omega)
  have q2 : decide (9223372036854775808 ≤ b) = false := decide_eq_false (by omega)
  obtain rfl : sg = false := by rw [← hsg]; exact q2
  have hDb : Dn < 18446744073709551616 := by omega
  have hfm : fm b ≠ 0 := fun h => h0 (hx.symm.trans ((fm_zero_iff b).1 h))
  have hxl0 := fin_lt hf
  rw [hx] at hxl0
  obtain ⟨y, hy⟩ : ∃ y, x - 1 = y := ⟨_, rfl⟩
  have ey : (x : Int) - 1 = (y : Int) := by omega
  have hfy : Fnt y := fin_of_lt (by omega)
  have hfx : Fnt x := fin_of_lt (by omega)
  have HBy := fun s hs => beside_yes x b hb s hs hf hfm hx
  have hny : fng y = false := decide_eq_false (by omega)
  have hnx : fng x = false := decide_eq_false (by omega)
  obtain ⟨yV, hyV⟩ : ∃ m, 2 * fm y + 1 = m := ⟨_, rfl⟩
  obtain ⟨yE, hyE⟩ : ∃ m, fe y - 1 = m := ⟨_, rfl⟩
  obtain ⟨xV, hxV⟩ : ∃ m, 2 * fm x + 1 = m := ⟨_, rfl⟩
  obtain ⟨xE, hxE⟩ : ∃ m, fe x - 1 = m := ⟨_, rfl⟩
  have hyV0 : yV ≠ 0 := by omega
  have hyV9 : yV < 18446744073709551616 := by have := (f_parts y).2.1; omega
  have hyE1 : -2000 ≤ yE := by have := fe_bd hfy; omega
  have hyE2 : yE ≤ 2000 := by have := fe_bd hfy; omega
  have hxV0 : xV ≠ 0 := by omega
  have hxV9 : xV < 18446744073709551616 := by have := (f_parts x).2.1; omega
  have hxE1 : -2000 ≤ xE := by have := fe_bd hfx; omega
  have hxE2 : xE ≤ 2000 := by have := fe_bd hfx; omega
  rw [hy] at HBy
  unfold midD at HBy
  rw [hny, hnx, hyV, hyE, hxV, hxE] at HBy
  have HB : Hid (∀ s, Tab s → Calls Tryd.prog 11 #[.int .u64 (b : Int)] s (BTold s ⟨false, yV, yE⟩ ⟨false, xV, xE⟩)) := HBy
  obtain ⟨V1, E1, i1, i2⟩ := mid8_spec hfy (x := y) (Nat.mod_eq_of_lt (by omega))
  obtain ⟨V2, E2, i3, i4⟩ := mid8_spec hfx (x := x) (Nat.mod_eq_of_lt (by omega))
  rw [hyV, hyE] at i1
  rw [hxV, hxE] at i3
  have I1 := Lib.hid (i1 false)
  have I2 := Lib.hid i2
  have I3 := Lib.hid (i3 false)
  have I4 := Lib.hid i4
  have q3 : decide ((0 : Int) < (x : Int)) = true := decide_eq_true (by omega)
  have q4 : decide (0 < x) = true := decide_eq_true (by omega)
  have q5 : ((x : Int) == 0) = false := beq_no (by omega)
  have hyb : y < 18446744073709551616 := by omega
  have hwy : IntKind.u64.wrap (y : Int) = (y : Int) := by rw [IntKind.wrap_u64]; omega
  have hxb : x < 18446744073709551616 := by omega
  have hUb : U < 18446744073709551616 := by rw [← hU]; exact nup_lt hb hf
  have HU : Hid (∀ s, Calls Tryd.prog 8 #[.int .u64 (b : Int)] s fun e w' => e = .returned (.tuple #[.int .u64 (U : Int), .bool true]) ∧ s = w') := fun s => up_yes U b hb s hf hU
  have HD : Hid (∀ s, Calls Tryd.prog 9 #[.int .u64 (b : Int)] s fun e w' => e = .returned (.tuple #[.int .u64 (Dn : Int), .bool true]) ∧ s = w') := fun s => down_yes Dn b hb s hf hDn
  have HM : Hid (∀ s, Tab s → Calls Tryd.prog 10 #[.int .u64 (b : Int)] s (FTold s ⟨false, mV, mE⟩ 1)) := fun s hs => by rw [← hmV, ← hmE, ← hsg]; exact mid_yes b hb s hs hf
  obtain ⟨v, hv⟩ : ∃ v, fkd b = v := ⟨_, rfl⟩
  have hv2 : v ≤ 2 := by rw [← hv]; exact (fkd_fin b).2 hf
  have Hv := Lib.hid hv
  have c1 : decide ((2 : Int) < (v : Int)) = false := decide_eq_false (by omega)
  have c2 : decide (2 < v) = false := decide_eq_false (by omega)
  have Hx : Hid (∀ s, Calls Tryd.prog 13 #[.int .u64 (b : Int)] s fun e w' => e = .returned (.int .u64 (x : Int)) ∧ s = w') := fun s => by
    have h := rsize_any b s
    rw [hx] at h
    exact h
  obtain ⟨V, E, h8, h9⟩ := mid8_spec hf hx
  rw [hmV, hmE] at h8
  have H8 := Lib.hid h8
  have H9 := Lib.hid h9
  have hxl := fin_lt hf
  rw [hx] at hxl
  have r1 : ((U : Int) != (U : Int)) = false := bne_no rfl
  have r2 : ((Dn : Int) != (Dn : Int)) = false := bne_no rfl
  clear hT hf hx hU hDn hmV hmE hsg hv h8 h9 hfm hv2 h0 hg t1 t2 hfy hfx HBy hny hnx hyV hyE hxV hxE hxl0 hy i1 i2 i3 i4
  go_enter Tryd.func3, Tryd.ntmps3
  go_wp2_with fail
  refine H1.out.mono ?_
  rintro e w1 ⟨rfl, hb1⟩
  have HS1 := Lib.hid hb1
  have HT1 := Lib.hid (HT.out.below hb1)
  clear hb1 H1 HT
  go_wp2_with fail
  refine (HU.out _).mono ?_
  rintro e w' ⟨rfl, rfl⟩
  go_wp2_with fail
  refine (HD.out _).mono ?_
  rintro e w' ⟨rfl, rfl⟩
  go_wp2_with fail
  refine (HM.out _ HT1.out).mono ?_
  rintro e w2 ⟨A2, m2, d2, zs, rfl, hm2, hl2, hb2, hv2, hB2⟩
  obtain rfl : zs = [mV] := bare_eq hl2.words (Words.one hmV9) hb2 (bare_one hmV0) (hv2.trans (val_single _).symm)
  obtain rfl : m2 = 1 := hl2.len.symm
  have a2 := below1 w2 (.cells #[.bool false, .slice A2 1 d2, .int .i64 mE] 28)
  have hk : HoldD w w2.heap.size false A2 1 d2 [mV] mE (w2.alloc (.cells #[.bool false, .slice A2 1 d2, .int .i64 mE] 28)) := by
    have s1 := HS1.out.trans (hB2.mono HS1.out.size)
    exact ⟨Bd.new w2 _ _ _ _ _ _, hl2.below a2, (HT1.out.below hB2).below a2, s1.trans (a2.mono s1.size)⟩
  have K2 := Lib.hid hk
  clear hl2 hb2 hv2 hB2 a2 hk HS1 HT1 HU HD HM
  go_wp2_with fail
  refine (HB.out _ K2.out.2.2.1).mono ?_
  rintro e w3 ⟨A3, m3, c3, zs, B3, n3, d3, us, rfl, hm3, hn3, hl3, hl4, hba3, hba4, hv3, hv4, hb3⟩
  simp only at hv3 hv4
  obtain rfl : zs = [yV] := bare_eq hl3.words (Words.one hyV9) hba3 (bare_one hyV0) (hv3.trans (val_single _).symm)
  obtain rfl : m3 = 1 := hl3.len.symm
  obtain rfl : us = [xV] := bare_eq hl4.words (Words.one hxV9) hba4 (bare_one hxV0) (hv4.trans (val_single _).symm)
  obtain rfl : n3 = 1 := hl4.len.symm
  have h5 := HoldD3.start (K2.out.below hb3) false A3 1 c3 [yV] yE hl3 false B3 1 d3 [xV] xE hl4
  have K3 := Lib.hid h5
  clear hl3 hl4 hba3 hba4 hv3 hv4 hb3 h5 K2 HB
  go_wp2_with fail
  refine (rkind_l v b hb _ Hv).mono ?_
  rintro e w' ⟨rfl, rfl⟩
  go_wp2_with fail
  refine (Hx.out _).mono ?_
  rintro e w' ⟨rfl, rfl⟩
  clear Hv Hx
  go_wp2_with fail
  refine (H9.out _).mono ?_
  rintro e w4 ⟨A4, m4, c4, ds, rfl, hm4, hl4, hd4, hv4, hB4⟩
  have a5 := below1 w4 (.cells #[.bool false, .slice A4 m4 c4, .int .i64 E] 37)
  have K4 := (K3.out.below hB4).below a5
  have n5 := Bd.new w4 37 false A4 m4 c4 E
  have H5 := Lib.hid (nworth_l false mV mE A2 1 d2 V E A4 m4 c4 ds _ hmV0 hmV9 (by omega) (by omega) K4.1.1.2.1 (hl4.below a5) hd4 hv4 (by omega) (H8.out false))
  have HK4 := Lib.hid K4
  have x0 := K4.1.1.1.c0
  have x1 := K4.1.1.1.c1
  have x2 := K4.1.1.1.c2
  have y0 := n5.c0
  have y1 := n5.c1
  have y2 := n5.c2
  clear K4 n5 a5 hl4 hd4 hv4 hB4 K3 H9 H8
  go_wp2_with fail
  refine H5.out.mono ?_
  rintro e w5 ⟨rfl, hb5⟩
  have K5 := HK4.out.below hb5
  have K6 := Lib.hid (K5.below (below_drew _)).cells
  clear hb5 HK4 H5 K5 x0 x1 x2 y0 y1 y2 r1 r2 q1 q2 q5 hm4
  have HW1 : Hid (∀ s A6 m6 c6 ts, Cells3 w w2.heap.size false A2 1 d2 [mV] mE w3.heap.size false A3 1 c3 [yV] yE (w3.heap.size + 1) false B3 1 d3 [xV] xE s → Dig s A6 m6 c6 ts ∧ D.Bare ts ∧ D.val ts = V1 ∧ m6 ≤ 140 → Calls Tryd.prog 15 #[.agg #[.bool false, .slice A3 1 c3, .int .i64 yE], .agg #[.bool false, .slice A6 m6 c6, .int .i64 E1]] s fun e w' => e = .returned (.bool true) ∧ Cells3 w w2.heap.size false A2 1 d2 [mV] mE w3.heap.size false A3 1 c3 [yV] yE (w3.heap.size + 1) false B3 1 d3 [xV] xE w') := fun s A6 m6 c6 ts hs ht => by
    have h := hs.2.2.2.2.2.2.out
    refine (nworth_l false yV yE A3 1 c3 V1 E1 A6 m6 c6 ts s hyV0 hyV9 (by omega) (by omega) h.1.2.2 ht.1 ht.2.1 ht.2.2.1 (by omega) I1.out).mono ?_
    rintro e w' ⟨rfl, hb'⟩
    exact ⟨rfl, (h.below hb').cells⟩
  have HW2 : Hid (∀ s A6 m6 c6 ts, Cells3 w w2.heap.size false A2 1 d2 [mV] mE w3.heap.size false A3 1 c3 [yV] yE (w3.heap.size + 1) false B3 1 d3 [xV] xE s → Dig s A6 m6 c6 ts ∧ D.Bare ts ∧ D.val ts = V2 ∧ m6 ≤ 140 → Calls Tryd.prog 15 #[.agg #[.bool false, .slice B3 1 d3, .int .i64 xE], .agg #[.bool false, .slice A6 m6 c6, .int .i64 E2]] s fun e w' => e = .returned (.bool true) ∧ Cells3 w w2.heap.size false A2 1 d2 [mV] mE w3.heap.size false A3 1 c3 [yV] yE (w3.heap.size + 1) false B3 1 d3 [xV] xE w') := fun s A6 m6 c6 ts hs ht => by
    have h := hs.2.2.2.2.2.2.out
    refine (nworth_l false xV xE B3 1 d3 V2 E2 A6 m6 c6 ts s hxV0 hxV9 (by omega) (by omega) h.2.2 ht.1 ht.2.1 ht.2.2.1 (by omega) I3.out).mono ?_
    rintro e w' ⟨rfl, hb'⟩
    exact ⟨rfl, (h.below hb').cells⟩
  have HR1 : Hid (∀ s, Cells3 w w2.heap.size false A2 1 d2 [mV] mE w3.heap.size false A3 1 c3 [yV] yE (w3.heap.size + 1) false B3 1 d3 [xV] xE s → Calls Tryd.prog 14 #[.int .u64 (y : Int)] s fun e w' => ∃ (A6 : Option Addr) (m6 c6 : Nat) (ts : List Nat), e = .returned (.agg #[.bool false, .slice A6 m6 c6, .int .i64 E1]) ∧ Cells3 w w2.heap.size false A2 1 d2 [mV] mE w3.heap.size false A3 1 c3 [yV] yE (w3.heap.size + 1) false B3 1 d3 [xV] xE w' ∧ Hid (Dig w' A6 m6 c6 ts ∧ D.Bare ts ∧ D.val ts = V1 ∧ m6 ≤ 140)) := fun s hs => by
    refine (I2.out s).mono ?_
    rintro e w' ⟨A6, m6, c6, ts, rfl, k1, k2, k3, k4, k5⟩
    exact ⟨A6, m6, c6, ts, rfl, (hs.2.2.2.2.2.2.out.below k5).cells, k2, k3, k4, k1⟩
  have HR2 : Hid (∀ s, Cells3 w w2.heap.size false A2 1 d2 [mV] mE w3.heap.size false A3 1 c3 [yV] yE (w3.heap.size + 1) false B3 1 d3 [xV] xE s → Calls Tryd.prog 14 #[.int .u64 (x : Int)] s fun e w' => ∃ (A6 : Option Addr) (m6 c6 : Nat) (ts : List Nat), e = .returned (.agg #[.bool false, .slice A6 m6 c6, .int .i64 E2]) ∧ Cells3 w w2.heap.size false A2 1 d2 [mV] mE w3.heap.size false A3 1 c3 [yV] yE (w3.heap.size + 1) false B3 1 d3 [xV] xE w' ∧ Hid (Dig w' A6 m6 c6 ts ∧ D.Bare ts ∧ D.val ts = V2 ∧ m6 ≤ 140)) := fun s hs => by
    refine (I4.out s).mono ?_
    rintro e w' ⟨A6, m6, c6, ts, rfl, k1, k2, k3, k4, k5⟩
    exact ⟨A6, m6, c6, ts, rfl, (hs.2.2.2.2.2.2.out.below k5).cells, k2, k3, k4, k1⟩
  clear I1 I2 I3 I4 hyV0 hyV9 hyE1 hyE2 hxV0 hxV9 hxE1 hxE2 hmV0 hmV9 hmE1 hmE2
  go_wp2_with fail
  go_region_held3 (fun w' => w'.cell? ⟨w3.heap.size, 0, none⟩ = some (.bool false) ∧ w'.cell? ⟨w3.heap.size, 1, none⟩ = some (.slice A3 1 c3) ∧ w'.cell? ⟨w3.heap.size, 2, none⟩ = some (.int .i64 yE) ∧ w'.cell? ⟨w3.heap.size + 1, 0, none⟩ = some (.bool false) ∧ w'.cell? ⟨w3.heap.size + 1, 1, none⟩ = some (.slice B3 1 d3) ∧ w'.cell? ⟨w3.heap.size + 1, 2, none⟩ = some (.int .i64 xE) ∧ Hid (HoldD3 w w2.heap.size false A2 1 d2 [mV] mE w3.heap.size false A3 1 c3 [yV] yE (w3.heap.size + 1) false B3 1 d3 [xV] xE w'))
    (first | (with_reducible exact K6.out) | (with_reducible assumption))
    (first
      | (go_at_call 14; (with_reducible refine (HR1.out _ (by first | (with_reducible exact K6.out) | (with_reducible assumption))).mono ?_); rintro e w6 ⟨A6, m6, c6, ts, rfl, hY6, hP6⟩)
      | (go_at_call 15; (with_reducible refine (HW1.out _ A6 m6 c6 ts (by with_reducible assumption) hP6.out).mono ?_); rintro e w7 ⟨rfl, hY7⟩)
      | (go_at_call 14; (with_reducible refine (HR2.out _ (by with_reducible assumption)).mono ?_); rintro e w8 ⟨A8, m8, c8, us, rfl, hY8, hP8⟩)
      | (go_at_call 15; (with_reducible refine (HW2.out _ A8 m8 c8 us (by with_reducible assumption) hP8.out).mono ?_); rintro e w9 ⟨rfl, hY9⟩))
  all_goals (
    have Hfin := Lib.hid hY9.2.2.2.2.2.2.out.1.1.2.2.2
    clear hY6 hY7 hY8 hY9 hP6 hP8 HR1 HR2 HW1 HW2 K6
    go_wp2_with fail
    go_ret
    exact ⟨rfl, Hfin.out⟩)

end Go.Proofs.YtgacafdkhailmaaDoor

/- The walk of NextTells (written by law_ntells.py). -/
namespace Go.Proofs.YtgacafdkhailmaaDoor
open Go.RowKit

theorem walk_nextTells (a : Int) (w : World) (hT : Tab w) (h1 : 0 ≤ a) (h2 : a ≤ 18446744073709551615) :
    Calls Tryd.prog 3 #[.int .u64 a] w fun e w' => e = .returned (.bool true) ∧ Below w.heap.size w w' := by
  obtain ⟨b, rfl⟩ : ∃ b : Nat, a = (b : Int) := ⟨a.toNat, by omega⟩
  by_cases hf : Fnt b
  · by_cases h0 : b % 9223372036854775808 = 0
    · exact ntells_nought b _ (by omega) w hT hf rfl h0
    · by_cases hg : 9223372036854775808 ≤ b
      · exact ntells_neg b _ (by omega) w hT hf rfl hg h0
      · exact ntells_pos b _ (by omega) w hT hf rfl (by omega) h0
  · exact ntells_no b (by omega) w hT hf
end Go.Proofs.YtgacafdkhailmaaDoor
