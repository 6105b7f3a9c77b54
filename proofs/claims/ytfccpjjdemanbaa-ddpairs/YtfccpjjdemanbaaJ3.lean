/- RnSum, RnCmp, RnSeek, RnBelow, RnMid, RnTell, RnDoc: joined. -/
import Derived.Test.YtfccpjjdemanbaaJ2
import Derived.Deep.Cut
import Derived.Deep.CutBlock
/- The document's numbers: planimeterref05.Add of two that aren't 0. Written by law_rsum.py. -/
namespace Go.Proofs.Ytfccpjjdemanbaa
open Go.RowKit

/-- .. and the result's block. -/
def HS3 (w0 : World) (b1 : Nat) (g : Bool) (A : Option Addr) (n c : Nat) (ds : List Nat) (e1 : Int) (b2 : Nat) (k : Bool) (B : Option Addr) (m d : Nat) (es : List Nat) (e2 : Int) (b3 : Nat) (w : World) : Prop :=
  HN w0 b1 g A n c ds e1 b2 k B m d es e2 w ∧ Bd w b3 29 false none 0 0 0
abbrev CellsS (w0 : World) (b1 : Nat) (g : Bool) (A : Option Addr) (n c : Nat) (ds : List Nat) (e1 : Int) (b2 : Nat) (k : Bool) (B : Option Addr) (m d : Nat) (es : List Nat) (e2 : Int) (b3 : Nat) (w' : World) : Prop :=
  w'.cell? ⟨b1, 0, none⟩ = some (.bool g) ∧ w'.cell? ⟨b1, 1, none⟩ = some (.slice A n c) ∧ w'.cell? ⟨b1, 2, none⟩ = some (.int .i64 e1) ∧ w'.cell? ⟨b2, 0, none⟩ = some (.bool k) ∧ w'.cell? ⟨b2, 1, none⟩ = some (.slice B m d) ∧ w'.cell? ⟨b2, 2, none⟩ = some (.int .i64 e2) ∧ Hid (HS3 w0 b1 g A n c ds e1 b2 k B m d es e2 b3 w')
section
variable {w0 : World} {b1 : Nat} {g : Bool} {A : Option Addr} {n c : Nat} {ds : List Nat} {e1 : Int} {b2 : Nat} {k : Bool} {B : Option Addr} {m d : Nat} {es : List Nat} {e2 : Int} {b3 : Nat} {w w' : World}
theorem HS3.below (h : HS3 w0 b1 g A n c ds e1 b2 k B m d es e2 b3 w) (hb : Below w.heap.size w w') : HS3 w0 b1 g A n c ds e1 b2 k B m d es e2 b3 w' := ⟨h.1.below hb, h.2.below hb⟩
theorem HS3.cells (h : HS3 w0 b1 g A n c ds e1 b2 k B m d es e2 b3 w) : CellsS w0 b1 g A n c ds e1 b2 k B m d es e2 b3 w := ⟨h.1.1.c0, h.1.1.c1, h.1.1.c2, h.1.2.1.c0, h.1.2.1.c1, h.1.2.1.c2, h⟩
end

set_option maxHeartbeats 1000000 in
theorem radd_sum_L (x y q : Nat) (A : Option Addr) (n c : Nat) (ds : List Nat) (e1 : Int) (B : Option Addr) (m d : Nat) (es : List Nat) (e2 : Int) (w : World) (hA : Dig w A n c ds) (hB : Dig w B m d es) (ba : D.Bare ds) (bb : D.Bare es) (hn : n ≤ 1000) (hm : m ≤ 1000) (hn0 : n ≠ 0) (hm0 : m ≠ 0)
    (hd : e1 - e2 = (q : Int)) (hq : q ≤ 4000) (hl : e2 < e1) (hx : Hid (D.val ds * 2 ^ q = x)) (hy : Hid (D.val es = y)) :
    Calls Try.prog 11 #[.agg #[.bool false, .slice A n c, .int .i64 e1], .agg #[.bool false, .slice B m d, .int .i64 e2]] w (NTold w ⟨false, x + y, e2⟩ 100001) := by
  have h0 : HS3 w w.heap.size false A n c ds e1 (w.heap.size + 1) false B m d es e2 (w.heap.size + 1 + 1) _ := HN.start3 w false A n c ds e1 false B m d es e2 hA hB
  have K0 := Lib.hid (h0.below (below_drew _)).cells
  have HP1 : Hid (∀ u, CellsS w w.heap.size false A n c ds e1 (w.heap.size + 1) false B m d es e2 (w.heap.size + 1 + 1) u → Calls Try.prog 31 #[.slice A n c, .int .i64 (q : Int)] u fun e w' => ∃ (A6 : Option Addr) (m6 c6 : Nat) (ps : List Nat), e = .returned (.slice A6 m6 c6) ∧ m6 ≤ 100000 ∧ CellsS w w.heap.size false A n c ds e1 (w.heap.size + 1) false B m d es e2 (w.heap.size + 1 + 1) w' ∧ Hid (Dig w' A6 m6 c6 ps ∧ D.Bare ps ∧ D.val ps = x ∧ Below u.heap.size u w')) := fun u hu => by
    have h := hu.2.2.2.2.2.2.out
    have this := rshl_any A n c ds q u h.1.2.2.1 ba (by omega) (by omega)
    rw [hx.out] at this
    refine this.mono ?_
    rintro e w' ⟨A6, m6, c6, ps, rfl, q1, q2, q3, q4, q5⟩
    exact ⟨A6, m6, c6, ps, rfl, q1, (h.below q5).cells, q2, q3, q4, q5⟩
  have HP2 : Hid (∀ u, CellsS w w.heap.size false A n c ds e1 (w.heap.size + 1) false B m d es e2 (w.heap.size + 1 + 1) u → Calls Try.prog 31 #[.slice B m d, .int .i64 0] u fun e w' => ∃ (A6 : Option Addr) (m6 c6 : Nat) (ps : List Nat), e = .returned (.slice A6 m6 c6) ∧ m6 ≤ 100000 ∧ CellsS w w.heap.size false A n c ds e1 (w.heap.size + 1) false B m d es e2 (w.heap.size + 1 + 1) w' ∧ Hid (Dig w' A6 m6 c6 ps ∧ D.Bare ps ∧ D.val ps = y ∧ Below u.heap.size u w')) := fun u hu => by
    have h := hu.2.2.2.2.2.2.out
    have this := rshl_any B m d es 0 u h.1.2.2.2.1 bb (by omega) (by omega)
    rw [show ((0 : Nat) : Int) = 0 from rfl, Nat.pow_zero, Nat.mul_one] at this
    rw [hy.out] at this
    refine this.mono ?_
    rintro e w' ⟨A6, m6, c6, ps, rfl, q1, q2, q3, q4, q5⟩
    exact ⟨A6, m6, c6, ps, rfl, q1, (h.below q5).cells, q2, q3, q4, q5⟩
  have hwq : IntKind.i64.wrap (q : Int) = (q : Int) := by rw [IntKind.wrap_i64]; omega
  have hw0 : IntKind.i64.wrap 0 = 0 := by decide
  have c1 : ((n : Int) == 0) = false := beq_no (by omega)
  have c2 : ((m : Int) == 0) = false := beq_no (by omega)
  have x1 := h0.1.1.c1
  have x2 := h0.1.1.c2
  have y1 := h0.1.2.1.c1
  have y2 := h0.1.2.1.c2
  have b1 : decide (e2 < e1) = true := decide_eq_true hl
  clear hA hB ba bb hx hy h0 hl hn0 hm0
  go_enter Try.func11, Try.ntmps11
  go_wp2_with fail
  go_region_held3 (fun w' => w'.cell? ⟨w.heap.size, 0, none⟩ = some (.bool false) ∧ w'.cell? ⟨w.heap.size, 1, none⟩ = some (.slice A n c) ∧ w'.cell? ⟨w.heap.size, 2, none⟩ = some (.int .i64 e1) ∧ w'.cell? ⟨w.heap.size + 1, 0, none⟩ = some (.bool false) ∧ w'.cell? ⟨w.heap.size + 1, 1, none⟩ = some (.slice B m d) ∧ w'.cell? ⟨w.heap.size + 1, 2, none⟩ = some (.int .i64 e2) ∧ Hid (HS3 w w.heap.size false A n c ds e1 (w.heap.size + 1) false B m d es e2 (w.heap.size + 1 + 1) w'))
    (first | (with_reducible exact K0.out) | (with_reducible assumption))
    (first | (go_at_call 31; (with_reducible refine (HP1.out _ (by first | (with_reducible exact K0.out) | (with_reducible assumption))).mono ?_); rintro e w1 ⟨A6, m6, c6, ps, rfl, hm6, hY, hP6⟩) | (go_at_call 31; (with_reducible refine (HP2.out _ (by first | (with_reducible exact K0.out) | (with_reducible assumption))).mono ?_); rintro e w2 ⟨A7, m7, c7, qs, rfl, hm7, hZ, hP7⟩))
  have G1 := hP6.out.1.below hP7.out.2.2.2
  have G2 := hP7.out.1
  have HZ := Lib.hid hZ.2.2.2.2.2.2.out
  have HB := Lib.hid (And.intro hP6.out.2.1 (And.intro hP6.out.2.2.1 (And.intro hP7.out.2.1 hP7.out.2.2.1)))
  have Z0 := Lib.hid (HZ.out.below (below_drew _)).cells
  have HC : Hid (∀ u, Dig u A6 m6 c6 ps → Dig u A7 m7 c7 qs → CellsS w w.heap.size false A n c ds e1 (w.heap.size + 1) false B m d es e2 (w.heap.size + 1 + 1) u → Calls Try.prog 32 #[.slice A6 m6 c6, .slice A7 m7 c7] u fun e w' => ∃ (A8 : Option Addr) (m8 c8 : Nat) (rs : List Nat), e = .returned (.slice A8 m8 c8) ∧ m8 ≤ 100001 ∧ CellsS w w.heap.size false A n c ds e1 (w.heap.size + 1) false B m d es e2 (w.heap.size + 1 + 1) w' ∧ Hid (Dig w' A8 m8 c8 rs ∧ D.Bare rs ∧ D.val rs = x + y)) := fun u d1 d2 hu => by
    have h := hu.2.2.2.2.2.2.out
    refine (radd_any A6 m6 c6 ps A7 m7 c7 qs u d1 d2 HB.out.1 HB.out.2.2.1 (by omega) (by omega)).mono ?_
    rintro e w' ⟨A8, m8, c8, rs, rfl, q1, q2, q3, q4, q5⟩
    exact ⟨A8, m8, c8, rs, rfl, by omega, (h.below q5).cells, q2, q3, by rw [q4, HB.out.2.1, HB.out.2.2.2]⟩
  have G1h := Lib.hid (G1.drew)
  have G2h := Lib.hid (G2.drew)
  clear K0 HP1 HP2 hY hP6 hP7 c1 c2 x1 x2 y1 y2 b1 G1 G2
  obtain ⟨x0, x1, x2, y0, y1, y2, _⟩ := hZ
  go_wp2_with fail
  go_region_held3 (fun w' => w'.cell? ⟨w.heap.size, 0, none⟩ = some (.bool false))
    (first | (with_reducible exact Z0.out.1) | (with_reducible exact Kp.out) | (with_reducible exact hX.1))
    ((go_at_call 32; (with_reducible refine (HC.out _ G1h.out G2h.out Z0.out).mono ?_); rintro e w9 ⟨A8, m8, c8, rs, rfl, hm8, hX, hP8⟩; have kb := hX.2.2.2.2.2.2.out.2; have u0 := kb.c0; have u1 := kb.c1; have u2 := kb.c2; have uf := kb.fz; have Hfin : Hid (NTold w ⟨false, x + y, e2⟩ 100001 (.returned (.agg #[.bool false, .slice A8 m8 c8, .int .i64 e2])) (World.put w9 (w.heap.size + 1 + 1) false A8 m8 c8 e2)) := ⟨A8, m8, c8, rs, rfl, hm8, kb.dig hP8.out.1 _ _ _ _ _, hP8.out.2.1, hP8.out.2.2, below_put hX.2.2.2.2.2.2.out.1.2.2.2.2 (by omega) _ _ _ _ _⟩; have hW := hX.2.2.2.2.2.2.out; have Kp : Hid (World.cell? (World.put w9 (w.heap.size + 1 + 1) false A8 m8 c8 e2) ⟨w.heap.size, 0, none⟩ = some (.bool false)) := (hW.1.1.other (by omega) _ _ _ _ _).c0; clear kb hP8 hW))
  all_goals (
    go_wp2_with fail
    exact bodyPost_ret (v := .agg #[.bool false, .slice A8 m8 c8, .int .i64 e2]) (by simp [results, Try.results11, go_sem, u0, u1, u2]) rfl Hfin.out)

set_option maxHeartbeats 1000000 in
theorem radd_sum_G (x y q : Nat) (A : Option Addr) (n c : Nat) (ds : List Nat) (e1 : Int) (B : Option Addr) (m d : Nat) (es : List Nat) (e2 : Int) (w : World) (hA : Dig w A n c ds) (hB : Dig w B m d es) (ba : D.Bare ds) (bb : D.Bare es) (hn : n ≤ 1000) (hm : m ≤ 1000) (hn0 : n ≠ 0) (hm0 : m ≠ 0)
    (hd : e2 - e1 = (q : Int)) (hq : q ≤ 4000) (hx : Hid (D.val ds = x)) (hy : Hid (D.val es * 2 ^ q = y)) :
    Calls Try.prog 11 #[.agg #[.bool false, .slice A n c, .int .i64 e1], .agg #[.bool false, .slice B m d, .int .i64 e2]] w (NTold w ⟨false, x + y, e1⟩ 100001) := by
  have h0 : HS3 w w.heap.size false A n c ds e1 (w.heap.size + 1) false B m d es e2 (w.heap.size + 1 + 1) _ := HN.start3 w false A n c ds e1 false B m d es e2 hA hB
  have K0 := Lib.hid (h0.below (below_drew _)).cells
  have HP1 : Hid (∀ u, CellsS w w.heap.size false A n c ds e1 (w.heap.size + 1) false B m d es e2 (w.heap.size + 1 + 1) u → Calls Try.prog 31 #[.slice A n c, .int .i64 0] u fun e w' => ∃ (A6 : Option Addr) (m6 c6 : Nat) (ps : List Nat), e = .returned (.slice A6 m6 c6) ∧ m6 ≤ 100000 ∧ CellsS w w.heap.size false A n c ds e1 (w.heap.size + 1) false B m d es e2 (w.heap.size + 1 + 1) w' ∧ Hid (Dig w' A6 m6 c6 ps ∧ D.Bare ps ∧ D.val ps = x ∧ Below u.heap.size u w')) := fun u hu => by
    have h := hu.2.2.2.2.2.2.out
    have this := rshl_any A n c ds 0 u h.1.2.2.1 ba (by omega) (by omega)
    rw [show ((0 : Nat) : Int) = 0 from rfl, Nat.pow_zero, Nat.mul_one] at this
    rw [hx.out] at this
    refine this.mono ?_
    rintro e w' ⟨A6, m6, c6, ps, rfl, q1, q2, q3, q4, q5⟩
    exact ⟨A6, m6, c6, ps, rfl, q1, (h.below q5).cells, q2, q3, q4, q5⟩
  have HP2 : Hid (∀ u, CellsS w w.heap.size false A n c ds e1 (w.heap.size + 1) false B m d es e2 (w.heap.size + 1 + 1) u → Calls Try.prog 31 #[.slice B m d, .int .i64 (q : Int)] u fun e w' => ∃ (A6 : Option Addr) (m6 c6 : Nat) (ps : List Nat), e = .returned (.slice A6 m6 c6) ∧ m6 ≤ 100000 ∧ CellsS w w.heap.size false A n c ds e1 (w.heap.size + 1) false B m d es e2 (w.heap.size + 1 + 1) w' ∧ Hid (Dig w' A6 m6 c6 ps ∧ D.Bare ps ∧ D.val ps = y ∧ Below u.heap.size u w')) := fun u hu => by
    have h := hu.2.2.2.2.2.2.out
    have this := rshl_any B m d es q u h.1.2.2.2.1 bb (by omega) (by omega)
    rw [hy.out] at this
    refine this.mono ?_
    rintro e w' ⟨A6, m6, c6, ps, rfl, q1, q2, q3, q4, q5⟩
    exact ⟨A6, m6, c6, ps, rfl, q1, (h.below q5).cells, q2, q3, q4, q5⟩
  have hwq : IntKind.i64.wrap (q : Int) = (q : Int) := by rw [IntKind.wrap_i64]; omega
  have hw0 : IntKind.i64.wrap 0 = 0 := by decide
  have c1 : ((n : Int) == 0) = false := beq_no (by omega)
  have c2 : ((m : Int) == 0) = false := beq_no (by omega)
  have x1 := h0.1.1.c1
  have x2 := h0.1.1.c2
  have y1 := h0.1.2.1.c1
  have y2 := h0.1.2.1.c2
  have b1 : decide (e2 < e1) = false := decide_eq_false (by omega)
  clear hA hB ba bb hx hy h0 hn0 hm0
  go_enter Try.func11, Try.ntmps11
  go_wp2_with fail
  go_region_held3 (fun w' => w'.cell? ⟨w.heap.size, 0, none⟩ = some (.bool false) ∧ w'.cell? ⟨w.heap.size, 1, none⟩ = some (.slice A n c) ∧ w'.cell? ⟨w.heap.size, 2, none⟩ = some (.int .i64 e1) ∧ w'.cell? ⟨w.heap.size + 1, 0, none⟩ = some (.bool false) ∧ w'.cell? ⟨w.heap.size + 1, 1, none⟩ = some (.slice B m d) ∧ w'.cell? ⟨w.heap.size + 1, 2, none⟩ = some (.int .i64 e2) ∧ Hid (HS3 w w.heap.size false A n c ds e1 (w.heap.size + 1) false B m d es e2 (w.heap.size + 1 + 1) w'))
    (first | (with_reducible exact K0.out) | (with_reducible assumption))
    (first | (go_at_call 31; (with_reducible refine (HP1.out _ (by first | (with_reducible exact K0.out) | (with_reducible assumption))).mono ?_); rintro e w1 ⟨A6, m6, c6, ps, rfl, hm6, hY, hP6⟩) | (go_at_call 31; (with_reducible refine (HP2.out _ (by first | (with_reducible exact K0.out) | (with_reducible assumption))).mono ?_); rintro e w2 ⟨A7, m7, c7, qs, rfl, hm7, hZ, hP7⟩))
  have G1 := hP6.out.1.below hP7.out.2.2.2
  have G2 := hP7.out.1
  have HZ := Lib.hid hZ.2.2.2.2.2.2.out
  have HB := Lib.hid (And.intro hP6.out.2.1 (And.intro hP6.out.2.2.1 (And.intro hP7.out.2.1 hP7.out.2.2.1)))
  have Z0 := Lib.hid (HZ.out.below (below_drew _)).cells
  have HC : Hid (∀ u, Dig u A6 m6 c6 ps → Dig u A7 m7 c7 qs → CellsS w w.heap.size false A n c ds e1 (w.heap.size + 1) false B m d es e2 (w.heap.size + 1 + 1) u → Calls Try.prog 32 #[.slice A6 m6 c6, .slice A7 m7 c7] u fun e w' => ∃ (A8 : Option Addr) (m8 c8 : Nat) (rs : List Nat), e = .returned (.slice A8 m8 c8) ∧ m8 ≤ 100001 ∧ CellsS w w.heap.size false A n c ds e1 (w.heap.size + 1) false B m d es e2 (w.heap.size + 1 + 1) w' ∧ Hid (Dig w' A8 m8 c8 rs ∧ D.Bare rs ∧ D.val rs = x + y)) := fun u d1 d2 hu => by
    have h := hu.2.2.2.2.2.2.out
    refine (radd_any A6 m6 c6 ps A7 m7 c7 qs u d1 d2 HB.out.1 HB.out.2.2.1 (by omega) (by omega)).mono ?_
    rintro e w' ⟨A8, m8, c8, rs, rfl, q1, q2, q3, q4, q5⟩
    exact ⟨A8, m8, c8, rs, rfl, by omega, (h.below q5).cells, q2, q3, by rw [q4, HB.out.2.1, HB.out.2.2.2]⟩
  have G1h := Lib.hid (G1.drew)
  have G2h := Lib.hid (G2.drew)
  clear K0 HP1 HP2 hY hP6 hP7 c1 c2 x1 x2 y1 y2 b1 G1 G2
  obtain ⟨x0, x1, x2, y0, y1, y2, _⟩ := hZ
  go_wp2_with fail
  go_region_held3 (fun w' => w'.cell? ⟨w.heap.size, 0, none⟩ = some (.bool false))
    (first | (with_reducible exact Z0.out.1) | (with_reducible exact Kp.out) | (with_reducible exact hX.1))
    ((go_at_call 32; (with_reducible refine (HC.out _ G1h.out G2h.out Z0.out).mono ?_); rintro e w9 ⟨A8, m8, c8, rs, rfl, hm8, hX, hP8⟩; have kb := hX.2.2.2.2.2.2.out.2; have u0 := kb.c0; have u1 := kb.c1; have u2 := kb.c2; have uf := kb.fz; have Hfin : Hid (NTold w ⟨false, x + y, e1⟩ 100001 (.returned (.agg #[.bool false, .slice A8 m8 c8, .int .i64 e1])) (World.put w9 (w.heap.size + 1 + 1) false A8 m8 c8 e1)) := ⟨A8, m8, c8, rs, rfl, hm8, kb.dig hP8.out.1 _ _ _ _ _, hP8.out.2.1, hP8.out.2.2, below_put hX.2.2.2.2.2.2.out.1.2.2.2.2 (by omega) _ _ _ _ _⟩; have hW := hX.2.2.2.2.2.2.out; have Kp : Hid (World.cell? (World.put w9 (w.heap.size + 1 + 1) false A8 m8 c8 e1) ⟨w.heap.size, 0, none⟩ = some (.bool false)) := (hW.1.1.other (by omega) _ _ _ _ _).c0; clear kb hP8 hW))
  all_goals (
    go_wp2_with fail
    exact bodyPost_ret (v := .agg #[.bool false, .slice A8 m8 c8, .int .i64 e1]) (by simp [results, Try.results11, go_sem, u0, u1, u2]) rfl Hfin.out)

set_option maxHeartbeats 1000000 in
theorem radd_ge_L (x y q : Nat) (A : Option Addr) (n c : Nat) (ds : List Nat) (e1 : Int) (B : Option Addr) (m d : Nat) (es : List Nat) (e2 : Int) (w : World) (hA : Dig w A n c ds) (hB : Dig w B m d es) (ba : D.Bare ds) (bb : D.Bare es) (hn : n ≤ 1000) (hm : m ≤ 1000) (hn0 : n ≠ 0) (hm0 : m ≠ 0)
    (hd : e1 - e2 = (q : Int)) (hq : q ≤ 4000) (hl : e2 < e1) (hx : Hid (D.val ds * 2 ^ q = x)) (hy : Hid (D.val es = y)) (ho : y ≤ x) :
    Calls Try.prog 11 #[.agg #[.bool false, .slice A n c, .int .i64 e1], .agg #[.bool true, .slice B m d, .int .i64 e2]] w (NTold w ⟨false, x - y, e2⟩ 100001) := by
  have h0 : HS3 w w.heap.size false A n c ds e1 (w.heap.size + 1) true B m d es e2 (w.heap.size + 1 + 1) _ := HN.start3 w false A n c ds e1 true B m d es e2 hA hB
  have K0 := Lib.hid (h0.below (below_drew _)).cells
  have HP1 : Hid (∀ u, CellsS w w.heap.size false A n c ds e1 (w.heap.size + 1) true B m d es e2 (w.heap.size + 1 + 1) u → Calls Try.prog 31 #[.slice A n c, .int .i64 (q : Int)] u fun e w' => ∃ (A6 : Option Addr) (m6 c6 : Nat) (ps : List Nat), e = .returned (.slice A6 m6 c6) ∧ m6 ≤ 100000 ∧ CellsS w w.heap.size false A n c ds e1 (w.heap.size + 1) true B m d es e2 (w.heap.size + 1 + 1) w' ∧ Hid (Dig w' A6 m6 c6 ps ∧ D.Bare ps ∧ D.val ps = x ∧ Below u.heap.size u w')) := fun u hu => by
    have h := hu.2.2.2.2.2.2.out
    have this := rshl_any A n c ds q u h.1.2.2.1 ba (by omega) (by omega)
    rw [hx.out] at this
    refine this.mono ?_
    rintro e w' ⟨A6, m6, c6, ps, rfl, q1, q2, q3, q4, q5⟩
    exact ⟨A6, m6, c6, ps, rfl, q1, (h.below q5).cells, q2, q3, q4, q5⟩
  have HP2 : Hid (∀ u, CellsS w w.heap.size false A n c ds e1 (w.heap.size + 1) true B m d es e2 (w.heap.size + 1 + 1) u → Calls Try.prog 31 #[.slice B m d, .int .i64 0] u fun e w' => ∃ (A6 : Option Addr) (m6 c6 : Nat) (ps : List Nat), e = .returned (.slice A6 m6 c6) ∧ m6 ≤ 100000 ∧ CellsS w w.heap.size false A n c ds e1 (w.heap.size + 1) true B m d es e2 (w.heap.size + 1 + 1) w' ∧ Hid (Dig w' A6 m6 c6 ps ∧ D.Bare ps ∧ D.val ps = y ∧ Below u.heap.size u w')) := fun u hu => by
    have h := hu.2.2.2.2.2.2.out
    have this := rshl_any B m d es 0 u h.1.2.2.2.1 bb (by omega) (by omega)
    rw [show ((0 : Nat) : Int) = 0 from rfl, Nat.pow_zero, Nat.mul_one] at this
    rw [hy.out] at this
    refine this.mono ?_
    rintro e w' ⟨A6, m6, c6, ps, rfl, q1, q2, q3, q4, q5⟩
    exact ⟨A6, m6, c6, ps, rfl, q1, (h.below q5).cells, q2, q3, q4, q5⟩
  have hwq : IntKind.i64.wrap (q : Int) = (q : Int) := by rw [IntKind.wrap_i64]; omega
  have hw0 : IntKind.i64.wrap 0 = 0 := by decide
  have c1 : ((n : Int) == 0) = false := beq_no (by omega)
  have c2 : ((m : Int) == 0) = false := beq_no (by omega)
  have x1 := h0.1.1.c1
  have x2 := h0.1.1.c2
  have y1 := h0.1.2.1.c1
  have y2 := h0.1.2.1.c2
  have b1 : decide (e2 < e1) = true := decide_eq_true hl
  clear hA hB ba bb hx hy h0 hl hn0 hm0
  go_enter Try.func11, Try.ntmps11
  go_wp2_with fail
  go_region_held3 (fun w' => w'.cell? ⟨w.heap.size, 0, none⟩ = some (.bool false) ∧ w'.cell? ⟨w.heap.size, 1, none⟩ = some (.slice A n c) ∧ w'.cell? ⟨w.heap.size, 2, none⟩ = some (.int .i64 e1) ∧ w'.cell? ⟨w.heap.size + 1, 0, none⟩ = some (.bool true) ∧ w'.cell? ⟨w.heap.size + 1, 1, none⟩ = some (.slice B m d) ∧ w'.cell? ⟨w.heap.size + 1, 2, none⟩ = some (.int .i64 e2) ∧ Hid (HS3 w w.heap.size false A n c ds e1 (w.heap.size + 1) true B m d es e2 (w.heap.size + 1 + 1) w'))
    (first | (with_reducible exact K0.out) | (with_reducible assumption))
    (first | (go_at_call 31; (with_reducible refine (HP1.out _ (by first | (with_reducible exact K0.out) | (with_reducible assumption))).mono ?_); rintro e w1 ⟨A6, m6, c6, ps, rfl, hm6, hY, hP6⟩) | (go_at_call 31; (with_reducible refine (HP2.out _ (by first | (with_reducible exact K0.out) | (with_reducible assumption))).mono ?_); rintro e w2 ⟨A7, m7, c7, qs, rfl, hm7, hZ, hP7⟩))
  have G1 := hP6.out.1.below hP7.out.2.2.2
  have G2 := hP7.out.1
  have HZ := Lib.hid hZ.2.2.2.2.2.2.out
  have HB := Lib.hid (And.intro hP6.out.2.1 (And.intro hP6.out.2.2.1 (And.intro hP7.out.2.1 hP7.out.2.2.1)))
  have Z0 := Lib.hid (HZ.out.below (below_drew _)).cells
  have HC : Hid (∀ u, Dig u A6 m6 c6 ps → Dig u A7 m7 c7 qs → CellsS w w.heap.size false A n c ds e1 (w.heap.size + 1) true B m d es e2 (w.heap.size + 1 + 1) u → Calls Try.prog 34 #[.slice A6 m6 c6, .slice A7 m7 c7] u fun e w' => ∃ (A8 : Option Addr) (m8 c8 : Nat) (rs : List Nat), e = .returned (.slice A8 m8 c8) ∧ m8 ≤ 100001 ∧ CellsS w w.heap.size false A n c ds e1 (w.heap.size + 1) true B m d es e2 (w.heap.size + 1 + 1) w' ∧ Hid (Dig w' A8 m8 c8 rs ∧ D.Bare rs ∧ D.val rs = x - y)) := fun u d1 d2 hu => by
    have h := hu.2.2.2.2.2.2.out
    refine (rsub_any A6 m6 c6 ps A7 m7 c7 qs u d1 d2 HB.out.2.2.1 (by rw [HB.out.2.1, HB.out.2.2.2]; exact ho) (by omega) (by omega)).mono ?_
    rintro e w' ⟨A8, m8, c8, rs, rfl, q1, q2, q3, q4, q5⟩
    exact ⟨A8, m8, c8, rs, rfl, by omega, (h.below q5).cells, q2, q3, by rw [q4, HB.out.2.1, HB.out.2.2.2]⟩
  obtain ⟨z, hz⟩ : ∃ z, cmpZ x y = z := ⟨_, rfl⟩
  have HR := rcmp_any A6 m6 c6 ps A7 m7 c7 qs w2 G1 G2 HB.out.1 HB.out.2.2.1 (by omega) (by omega)
  rw [HB.out.2.1, HB.out.2.2.2, hz] at HR
  have HR := Lib.hid HR
  have b3 : decide (0 ≤ z) = true := by
    rw [← hz]
    exact decide_eq_true (by have := cmpZ_bd x y; by_cases h : y < x; (rw [cmpZ_gt h]; decide); (rw [cmpZ_eq (by omega)]; decide))
  have G1h := Lib.hid G1
  have G2h := Lib.hid G2
  clear hz
  clear K0 HP1 HP2 hY hP6 hP7 c1 c2 x1 x2 y1 y2 b1 G1 G2
  obtain ⟨x0, x1, x2, y0, y1, y2, _⟩ := hZ
  go_wp2_with fail
  refine HR.out.mono ?_
  rintro e w3 ⟨rfl, nq, rfl⟩
  have Hq := Lib.hid (HZ.out.below (below_drewN (Below.refl _ _) nq))
  have Zq := Lib.hid (HZ.out.below (below_drewN (Below.refl _ _) (nq + 1))).cells
  have Zr := Lib.hid (Hq.out.below (below_drew _)).cells
  have G1q := Lib.hid (G1h.out.drewN (nq + 1))
  have G2q := Lib.hid (G2h.out.drewN (nq + 1))
  obtain ⟨v0, v1, v2, s0, s1, s2, _⟩ := Hq.out.cells
  clear x0 x1 x2 y0 y1 y2 HR HZ Z0
  go_wp2_with fail
  go_region_held3 (fun w' => w'.cell? ⟨w.heap.size, 0, none⟩ = some (.bool false))
    (first | (with_reducible exact Zq.out.1) | (with_reducible exact Zr.out.1) | (with_reducible exact Kp.out) | (with_reducible exact hX.1))
    ((go_at_call 34; (with_reducible refine (HC.out _ G1q.out G2q.out Zq.out).mono ?_); rintro e w9 ⟨A8, m8, c8, rs, rfl, hm8, hX, hP8⟩; have kb := hX.2.2.2.2.2.2.out.2; have u0 := kb.c0; have u1 := kb.c1; have u2 := kb.c2; have uf := kb.fz; have Hfin : Hid (NTold w ⟨false, x - y, e2⟩ 100001 (.returned (.agg #[.bool false, .slice A8 m8 c8, .int .i64 e2])) (World.put w9 (w.heap.size + 1 + 1) false A8 m8 c8 e2)) := ⟨A8, m8, c8, rs, rfl, hm8, kb.dig hP8.out.1 _ _ _ _ _, hP8.out.2.1, hP8.out.2.2, below_put hX.2.2.2.2.2.2.out.1.2.2.2.2 (by omega) _ _ _ _ _⟩; have hW := hX.2.2.2.2.2.2.out; have Kp : Hid (World.cell? (World.put w9 (w.heap.size + 1 + 1) false A8 m8 c8 e2) ⟨w.heap.size, 0, none⟩ = some (.bool false)) := (hW.1.1.other (by omega) _ _ _ _ _).c0; clear kb hP8 hW))
  all_goals (
    go_wp2_with fail
    exact bodyPost_ret (v := .agg #[.bool false, .slice A8 m8 c8, .int .i64 e2]) (by simp [results, Try.results11, go_sem, u0, u1, u2]) rfl Hfin.out)

set_option maxHeartbeats 1000000 in
theorem radd_ge_G (x y q : Nat) (A : Option Addr) (n c : Nat) (ds : List Nat) (e1 : Int) (B : Option Addr) (m d : Nat) (es : List Nat) (e2 : Int) (w : World) (hA : Dig w A n c ds) (hB : Dig w B m d es) (ba : D.Bare ds) (bb : D.Bare es) (hn : n ≤ 1000) (hm : m ≤ 1000) (hn0 : n ≠ 0) (hm0 : m ≠ 0)
    (hd : e2 - e1 = (q : Int)) (hq : q ≤ 4000) (hx : Hid (D.val ds = x)) (hy : Hid (D.val es * 2 ^ q = y)) (ho : y ≤ x) :
    Calls Try.prog 11 #[.agg #[.bool false, .slice A n c, .int .i64 e1], .agg #[.bool true, .slice B m d, .int .i64 e2]] w (NTold w ⟨false, x - y, e1⟩ 100001) := by
  have h0 : HS3 w w.heap.size false A n c ds e1 (w.heap.size + 1) true B m d es e2 (w.heap.size + 1 + 1) _ := HN.start3 w false A n c ds e1 true B m d es e2 hA hB
  have K0 := Lib.hid (h0.below (below_drew _)).cells
  have HP1 : Hid (∀ u, CellsS w w.heap.size false A n c ds e1 (w.heap.size + 1) true B m d es e2 (w.heap.size + 1 + 1) u → Calls Try.prog 31 #[.slice A n c, .int .i64 0] u fun e w' => ∃ (A6 : Option Addr) (m6 c6 : Nat) (ps : List Nat), e = .returned (.slice A6 m6 c6) ∧ m6 ≤ 100000 ∧ CellsS w w.heap.size false A n c ds e1 (w.heap.size + 1) true B m d es e2 (w.heap.size + 1 + 1) w' ∧ Hid (Dig w' A6 m6 c6 ps ∧ D.Bare ps ∧ D.val ps = x ∧ Below u.heap.size u w')) := fun u hu => by
    have h := hu.2.2.2.2.2.2.out
    have this := rshl_any A n c ds 0 u h.1.2.2.1 ba (by omega) (by omega)
    rw [show ((0 : Nat) : Int) = 0 from rfl, Nat.pow_zero, Nat.mul_one] at this
    rw [hx.out] at this
    refine this.mono ?_
    rintro e w' ⟨A6, m6, c6, ps, rfl, q1, q2, q3, q4, q5⟩
    exact ⟨A6, m6, c6, ps, rfl, q1, (h.below q5).cells, q2, q3, q4, q5⟩
  have HP2 : Hid (∀ u, CellsS w w.heap.size false A n c ds e1 (w.heap.size + 1) true B m d es e2 (w.heap.size + 1 + 1) u → Calls Try.prog 31 #[.slice B m d, .int .i64 (q : Int)] u fun e w' => ∃ (A6 : Option Addr) (m6 c6 : Nat) (ps : List Nat), e = .returned (.slice A6 m6 c6) ∧ m6 ≤ 100000 ∧ CellsS w w.heap.size false A n c ds e1 (w.heap.size + 1) true B m d es e2 (w.heap.size + 1 + 1) w' ∧ Hid (Dig w' A6 m6 c6 ps ∧ D.Bare ps ∧ D.val ps = y ∧ Below u.heap.size u w')) := fun u hu => by
    have h := hu.2.2.2.2.2.2.out
    have this := rshl_any B m d es q u h.1.2.2.2.1 bb (by omega) (by omega)
    rw [hy.out] at this
    refine this.mono ?_
    rintro e w' ⟨A6, m6, c6, ps, rfl, q1, q2, q3, q4, q5⟩
    exact ⟨A6, m6, c6, ps, rfl, q1, (h.below q5).cells, q2, q3, q4, q5⟩
  have hwq : IntKind.i64.wrap (q : Int) = (q : Int) := by rw [IntKind.wrap_i64]; omega
  have hw0 : IntKind.i64.wrap 0 = 0 := by decide
  have c1 : ((n : Int) == 0) = false := beq_no (by omega)
  have c2 : ((m : Int) == 0) = false := beq_no (by omega)
  have x1 := h0.1.1.c1
  have x2 := h0.1.1.c2
  have y1 := h0.1.2.1.c1
  have y2 := h0.1.2.1.c2
  have b1 : decide (e2 < e1) = false := decide_eq_false (by omega)
  clear hA hB ba bb hx hy h0 hn0 hm0
  go_enter Try.func11, Try.ntmps11
  go_wp2_with fail
  go_region_held3 (fun w' => w'.cell? ⟨w.heap.size, 0, none⟩ = some (.bool false) ∧ w'.cell? ⟨w.heap.size, 1, none⟩ = some (.slice A n c) ∧ w'.cell? ⟨w.heap.size, 2, none⟩ = some (.int .i64 e1) ∧ w'.cell? ⟨w.heap.size + 1, 0, none⟩ = some (.bool true) ∧ w'.cell? ⟨w.heap.size + 1, 1, none⟩ = some (.slice B m d) ∧ w'.cell? ⟨w.heap.size + 1, 2, none⟩ = some (.int .i64 e2) ∧ Hid (HS3 w w.heap.size false A n c ds e1 (w.heap.size + 1) true B m d es e2 (w.heap.size + 1 + 1) w'))
    (first | (with_reducible exact K0.out) | (with_reducible assumption))
    (first | (go_at_call 31; (with_reducible refine (HP1.out _ (by first | (with_reducible exact K0.out) | (with_reducible assumption))).mono ?_); rintro e w1 ⟨A6, m6, c6, ps, rfl, hm6, hY, hP6⟩) | (go_at_call 31; (with_reducible refine (HP2.out _ (by first | (with_reducible exact K0.out) | (with_reducible assumption))).mono ?_); rintro e w2 ⟨A7, m7, c7, qs, rfl, hm7, hZ, hP7⟩))
  have G1 := hP6.out.1.below hP7.out.2.2.2
  have G2 := hP7.out.1
  have HZ := Lib.hid hZ.2.2.2.2.2.2.out
  have HB := Lib.hid (And.intro hP6.out.2.1 (And.intro hP6.out.2.2.1 (And.intro hP7.out.2.1 hP7.out.2.2.1)))
  have Z0 := Lib.hid (HZ.out.below (below_drew _)).cells
  have HC : Hid (∀ u, Dig u A6 m6 c6 ps → Dig u A7 m7 c7 qs → CellsS w w.heap.size false A n c ds e1 (w.heap.size + 1) true B m d es e2 (w.heap.size + 1 + 1) u → Calls Try.prog 34 #[.slice A6 m6 c6, .slice A7 m7 c7] u fun e w' => ∃ (A8 : Option Addr) (m8 c8 : Nat) (rs : List Nat), e = .returned (.slice A8 m8 c8) ∧ m8 ≤ 100001 ∧ CellsS w w.heap.size false A n c ds e1 (w.heap.size + 1) true B m d es e2 (w.heap.size + 1 + 1) w' ∧ Hid (Dig w' A8 m8 c8 rs ∧ D.Bare rs ∧ D.val rs = x - y)) := fun u d1 d2 hu => by
    have h := hu.2.2.2.2.2.2.out
    refine (rsub_any A6 m6 c6 ps A7 m7 c7 qs u d1 d2 HB.out.2.2.1 (by rw [HB.out.2.1, HB.out.2.2.2]; exact ho) (by omega) (by omega)).mono ?_
    rintro e w' ⟨A8, m8, c8, rs, rfl, q1, q2, q3, q4, q5⟩
    exact ⟨A8, m8, c8, rs, rfl, by omega, (h.below q5).cells, q2, q3, by rw [q4, HB.out.2.1, HB.out.2.2.2]⟩
  obtain ⟨z, hz⟩ : ∃ z, cmpZ x y = z := ⟨_, rfl⟩
  have HR := rcmp_any A6 m6 c6 ps A7 m7 c7 qs w2 G1 G2 HB.out.1 HB.out.2.2.1 (by omega) (by omega)
  rw [HB.out.2.1, HB.out.2.2.2, hz] at HR
  have HR := Lib.hid HR
  have b3 : decide (0 ≤ z) = true := by
    rw [← hz]
    exact decide_eq_true (by have := cmpZ_bd x y; by_cases h : y < x; (rw [cmpZ_gt h]; decide); (rw [cmpZ_eq (by omega)]; decide))
  have G1h := Lib.hid G1
  have G2h := Lib.hid G2
  clear hz
  clear K0 HP1 HP2 hY hP6 hP7 c1 c2 x1 x2 y1 y2 b1 G1 G2
  obtain ⟨x0, x1, x2, y0, y1, y2, _⟩ := hZ
  go_wp2_with fail
  refine HR.out.mono ?_
  rintro e w3 ⟨rfl, nq, rfl⟩
  have Hq := Lib.hid (HZ.out.below (below_drewN (Below.refl _ _) nq))
  have Zq := Lib.hid (HZ.out.below (below_drewN (Below.refl _ _) (nq + 1))).cells
  have Zr := Lib.hid (Hq.out.below (below_drew _)).cells
  have G1q := Lib.hid (G1h.out.drewN (nq + 1))
  have G2q := Lib.hid (G2h.out.drewN (nq + 1))
  obtain ⟨v0, v1, v2, s0, s1, s2, _⟩ := Hq.out.cells
  clear x0 x1 x2 y0 y1 y2 HR HZ Z0
  go_wp2_with fail
  go_region_held3 (fun w' => w'.cell? ⟨w.heap.size, 0, none⟩ = some (.bool false))
    (first | (with_reducible exact Zq.out.1) | (with_reducible exact Zr.out.1) | (with_reducible exact Kp.out) | (with_reducible exact hX.1))
    ((go_at_call 34; (with_reducible refine (HC.out _ G1q.out G2q.out Zq.out).mono ?_); rintro e w9 ⟨A8, m8, c8, rs, rfl, hm8, hX, hP8⟩; have kb := hX.2.2.2.2.2.2.out.2; have u0 := kb.c0; have u1 := kb.c1; have u2 := kb.c2; have uf := kb.fz; have Hfin : Hid (NTold w ⟨false, x - y, e1⟩ 100001 (.returned (.agg #[.bool false, .slice A8 m8 c8, .int .i64 e1])) (World.put w9 (w.heap.size + 1 + 1) false A8 m8 c8 e1)) := ⟨A8, m8, c8, rs, rfl, hm8, kb.dig hP8.out.1 _ _ _ _ _, hP8.out.2.1, hP8.out.2.2, below_put hX.2.2.2.2.2.2.out.1.2.2.2.2 (by omega) _ _ _ _ _⟩; have hW := hX.2.2.2.2.2.2.out; have Kp : Hid (World.cell? (World.put w9 (w.heap.size + 1 + 1) false A8 m8 c8 e1) ⟨w.heap.size, 0, none⟩ = some (.bool false)) := (hW.1.1.other (by omega) _ _ _ _ _).c0; clear kb hP8 hW))
  all_goals (
    go_wp2_with fail
    exact bodyPost_ret (v := .agg #[.bool false, .slice A8 m8 c8, .int .i64 e1]) (by simp [results, Try.results11, go_sem, u0, u1, u2]) rfl Hfin.out)

set_option maxHeartbeats 1000000 in
theorem radd_lt_L (x y q : Nat) (A : Option Addr) (n c : Nat) (ds : List Nat) (e1 : Int) (B : Option Addr) (m d : Nat) (es : List Nat) (e2 : Int) (w : World) (hA : Dig w A n c ds) (hB : Dig w B m d es) (ba : D.Bare ds) (bb : D.Bare es) (hn : n ≤ 1000) (hm : m ≤ 1000) (hn0 : n ≠ 0) (hm0 : m ≠ 0)
    (hd : e1 - e2 = (q : Int)) (hq : q ≤ 4000) (hl : e2 < e1) (hx : Hid (D.val ds * 2 ^ q = x)) (hy : Hid (D.val es = y)) (ho : x < y) :
    Calls Try.prog 11 #[.agg #[.bool false, .slice A n c, .int .i64 e1], .agg #[.bool true, .slice B m d, .int .i64 e2]] w (NTold w ⟨true, y - x, e2⟩ 100001) := by
  have h0 : HS3 w w.heap.size false A n c ds e1 (w.heap.size + 1) true B m d es e2 (w.heap.size + 1 + 1) _ := HN.start3 w false A n c ds e1 true B m d es e2 hA hB
  have K0 := Lib.hid (h0.below (below_drew _)).cells
  have HP1 : Hid (∀ u, CellsS w w.heap.size false A n c ds e1 (w.heap.size + 1) true B m d es e2 (w.heap.size + 1 + 1) u → Calls Try.prog 31 #[.slice A n c, .int .i64 (q : Int)] u fun e w' => ∃ (A6 : Option Addr) (m6 c6 : Nat) (ps : List Nat), e = .returned (.slice A6 m6 c6) ∧ m6 ≤ 100000 ∧ CellsS w w.heap.size false A n c ds e1 (w.heap.size + 1) true B m d es e2 (w.heap.size + 1 + 1) w' ∧ Hid (Dig w' A6 m6 c6 ps ∧ D.Bare ps ∧ D.val ps = x ∧ Below u.heap.size u w')) := fun u hu => by
    have h := hu.2.2.2.2.2.2.out
    have this := rshl_any A n c ds q u h.1.2.2.1 ba (by omega) (by omega)
    rw [hx.out] at this
    refine this.mono ?_
    rintro e w' ⟨A6, m6, c6, ps, rfl, q1, q2, q3, q4, q5⟩
    exact ⟨A6, m6, c6, ps, rfl, q1, (h.below q5).cells, q2, q3, q4, q5⟩
  have HP2 : Hid (∀ u, CellsS w w.heap.size false A n c ds e1 (w.heap.size + 1) true B m d es e2 (w.heap.size + 1 + 1) u → Calls Try.prog 31 #[.slice B m d, .int .i64 0] u fun e w' => ∃ (A6 : Option Addr) (m6 c6 : Nat) (ps : List Nat), e = .returned (.slice A6 m6 c6) ∧ m6 ≤ 100000 ∧ CellsS w w.heap.size false A n c ds e1 (w.heap.size + 1) true B m d es e2 (w.heap.size + 1 + 1) w' ∧ Hid (Dig w' A6 m6 c6 ps ∧ D.Bare ps ∧ D.val ps = y ∧ Below u.heap.size u w')) := fun u hu => by
    have h := hu.2.2.2.2.2.2.out
    have this := rshl_any B m d es 0 u h.1.2.2.2.1 bb (by omega) (by omega)
    rw [show ((0 : Nat) : Int) = 0 from rfl, Nat.pow_zero, Nat.mul_one] at this
    rw [hy.out] at this
    refine this.mono ?_
    rintro e w' ⟨A6, m6, c6, ps, rfl, q1, q2, q3, q4, q5⟩
    exact ⟨A6, m6, c6, ps, rfl, q1, (h.below q5).cells, q2, q3, q4, q5⟩
  have hwq : IntKind.i64.wrap (q : Int) = (q : Int) := by rw [IntKind.wrap_i64]; omega
  have hw0 : IntKind.i64.wrap 0 = 0 := by decide
  have c1 : ((n : Int) == 0) = false := beq_no (by omega)
  have c2 : ((m : Int) == 0) = false := beq_no (by omega)
  have x1 := h0.1.1.c1
  have x2 := h0.1.1.c2
  have y1 := h0.1.2.1.c1
  have y2 := h0.1.2.1.c2
  have b1 : decide (e2 < e1) = true := decide_eq_true hl
  clear hA hB ba bb hx hy h0 hl hn0 hm0
  go_enter Try.func11, Try.ntmps11
  go_wp2_with fail
  go_region_held3 (fun w' => w'.cell? ⟨w.heap.size, 0, none⟩ = some (.bool false) ∧ w'.cell? ⟨w.heap.size, 1, none⟩ = some (.slice A n c) ∧ w'.cell? ⟨w.heap.size, 2, none⟩ = some (.int .i64 e1) ∧ w'.cell? ⟨w.heap.size + 1, 0, none⟩ = some (.bool true) ∧ w'.cell? ⟨w.heap.size + 1, 1, none⟩ = some (.slice B m d) ∧ w'.cell? ⟨w.heap.size + 1, 2, none⟩ = some (.int .i64 e2) ∧ Hid (HS3 w w.heap.size false A n c ds e1 (w.heap.size + 1) true B m d es e2 (w.heap.size + 1 + 1) w'))
    (first | (with_reducible exact K0.out) | (with_reducible assumption))
    (first | (go_at_call 31; (with_reducible refine (HP1.out _ (by first | (with_reducible exact K0.out) | (with_reducible assumption))).mono ?_); rintro e w1 ⟨A6, m6, c6, ps, rfl, hm6, hY, hP6⟩) | (go_at_call 31; (with_reducible refine (HP2.out _ (by first | (with_reducible exact K0.out) | (with_reducible assumption))).mono ?_); rintro e w2 ⟨A7, m7, c7, qs, rfl, hm7, hZ, hP7⟩))
  have G1 := hP6.out.1.below hP7.out.2.2.2
  have G2 := hP7.out.1
  have HZ := Lib.hid hZ.2.2.2.2.2.2.out
  have HB := Lib.hid (And.intro hP6.out.2.1 (And.intro hP6.out.2.2.1 (And.intro hP7.out.2.1 hP7.out.2.2.1)))
  have Z0 := Lib.hid (HZ.out.below (below_drew _)).cells
  have HC : Hid (∀ u, Dig u A6 m6 c6 ps → Dig u A7 m7 c7 qs → CellsS w w.heap.size false A n c ds e1 (w.heap.size + 1) true B m d es e2 (w.heap.size + 1 + 1) u → Calls Try.prog 34 #[.slice A7 m7 c7, .slice A6 m6 c6] u fun e w' => ∃ (A8 : Option Addr) (m8 c8 : Nat) (rs : List Nat), e = .returned (.slice A8 m8 c8) ∧ m8 ≤ 100001 ∧ CellsS w w.heap.size false A n c ds e1 (w.heap.size + 1) true B m d es e2 (w.heap.size + 1 + 1) w' ∧ Hid (Dig w' A8 m8 c8 rs ∧ D.Bare rs ∧ D.val rs = y - x)) := fun u d1 d2 hu => by
    have h := hu.2.2.2.2.2.2.out
    refine (rsub_any A7 m7 c7 qs A6 m6 c6 ps u d2 d1 HB.out.1 (by rw [HB.out.2.1, HB.out.2.2.2]; omega) (by omega) (by omega)).mono ?_
    rintro e w' ⟨A8, m8, c8, rs, rfl, q1, q2, q3, q4, q5⟩
    exact ⟨A8, m8, c8, rs, rfl, by omega, (h.below q5).cells, q2, q3, by rw [q4, HB.out.2.1, HB.out.2.2.2]⟩
  obtain ⟨z, hz⟩ : ∃ z, cmpZ x y = z := ⟨_, rfl⟩
  have HR := rcmp_any A6 m6 c6 ps A7 m7 c7 qs w2 G1 G2 HB.out.1 HB.out.2.2.1 (by omega) (by omega)
  rw [HB.out.2.1, HB.out.2.2.2, hz] at HR
  have HR := Lib.hid HR
  have b3 : decide (0 ≤ z) = false := by
    rw [← hz]
    rw [cmpZ_lt ho]; rfl
  have G1h := Lib.hid G1
  have G2h := Lib.hid G2
  clear hz
  clear K0 HP1 HP2 hY hP6 hP7 c1 c2 x1 x2 y1 y2 b1 G1 G2
  obtain ⟨x0, x1, x2, y0, y1, y2, _⟩ := hZ
  go_wp2_with fail
  refine HR.out.mono ?_
  rintro e w3 ⟨rfl, nq, rfl⟩
  have Hq := Lib.hid (HZ.out.below (below_drewN (Below.refl _ _) nq))
  have Zq := Lib.hid (HZ.out.below (below_drewN (Below.refl _ _) (nq + 1))).cells
  have Zr := Lib.hid (Hq.out.below (below_drew _)).cells
  have G1q := Lib.hid (G1h.out.drewN (nq + 1))
  have G2q := Lib.hid (G2h.out.drewN (nq + 1))
  obtain ⟨v0, v1, v2, s0, s1, s2, _⟩ := Hq.out.cells
  clear x0 x1 x2 y0 y1 y2 HR HZ Z0
  go_wp2_with fail
  go_region_held3 (fun w' => w'.cell? ⟨w.heap.size + 1, 0, none⟩ = some (.bool true))
    (first | (with_reducible exact Zq.out.2.2.2.1) | (with_reducible exact Zr.out.2.2.2.1) | (with_reducible exact Kp.out) | (with_reducible exact hX.2.2.2.1))
    ((go_at_call 34; (with_reducible refine (HC.out _ G1q.out G2q.out Zq.out).mono ?_); rintro e w9 ⟨A8, m8, c8, rs, rfl, hm8, hX, hP8⟩; have kb := hX.2.2.2.2.2.2.out.2; have u0 := kb.c0; have u1 := kb.c1; have u2 := kb.c2; have uf := kb.fz; have Hfin : Hid (NTold w ⟨true, y - x, e2⟩ 100001 (.returned (.agg #[.bool true, .slice A8 m8 c8, .int .i64 e2])) (World.put w9 (w.heap.size + 1 + 1) true A8 m8 c8 e2)) := ⟨A8, m8, c8, rs, rfl, hm8, kb.dig hP8.out.1 _ _ _ _ _, hP8.out.2.1, hP8.out.2.2, below_put hX.2.2.2.2.2.2.out.1.2.2.2.2 (by omega) _ _ _ _ _⟩; have hW := hX.2.2.2.2.2.2.out; have Kp : Hid (World.cell? (World.put w9 (w.heap.size + 1 + 1) true A8 m8 c8 e2) ⟨w.heap.size + 1, 0, none⟩ = some (.bool true)) := (hW.1.2.1.other (by omega) _ _ _ _ _).c0; clear kb hP8 hW))
  all_goals (
    go_wp2_with fail
    exact bodyPost_ret (v := .agg #[.bool true, .slice A8 m8 c8, .int .i64 e2]) (by simp [results, Try.results11, go_sem, u0, u1, u2]) rfl Hfin.out)

set_option maxHeartbeats 1000000 in
theorem radd_lt_G (x y q : Nat) (A : Option Addr) (n c : Nat) (ds : List Nat) (e1 : Int) (B : Option Addr) (m d : Nat) (es : List Nat) (e2 : Int) (w : World) (hA : Dig w A n c ds) (hB : Dig w B m d es) (ba : D.Bare ds) (bb : D.Bare es) (hn : n ≤ 1000) (hm : m ≤ 1000) (hn0 : n ≠ 0) (hm0 : m ≠ 0)
    (hd : e2 - e1 = (q : Int)) (hq : q ≤ 4000) (hx : Hid (D.val ds = x)) (hy : Hid (D.val es * 2 ^ q = y)) (ho : x < y) :
    Calls Try.prog 11 #[.agg #[.bool false, .slice A n c, .int .i64 e1], .agg #[.bool true, .slice B m d, .int .i64 e2]] w (NTold w ⟨true, y - x, e1⟩ 100001) := by
  have h0 : HS3 w w.heap.size false A n c ds e1 (w.heap.size + 1) true B m d es e2 (w.heap.size + 1 + 1) _ := HN.start3 w false A n c ds e1 true B m d es e2 hA hB
  have K0 := Lib.hid (h0.below (below_drew _)).cells
  have HP1 : Hid (∀ u, CellsS w w.heap.size false A n c ds e1 (w.heap.size + 1) true B m d es e2 (w.heap.size + 1 + 1) u → Calls Try.prog 31 #[.slice A n c, .int .i64 0] u fun e w' => ∃ (A6 : Option Addr) (m6 c6 : Nat) (ps : List Nat), e = .returned (.slice A6 m6 c6) ∧ m6 ≤ 100000 ∧ CellsS w w.heap.size false A n c ds e1 (w.heap.size + 1) true B m d es e2 (w.heap.size + 1 + 1) w' ∧ Hid (Dig w' A6 m6 c6 ps ∧ D.Bare ps ∧ D.val ps = x ∧ Below u.heap.size u w')) := fun u hu => by
    have h := hu.2.2.2.2.2.2.out
    have this := rshl_any A n c ds 0 u h.1.2.2.1 ba (by omega) (by omega)
    rw [show ((0 : Nat) : Int) = 0 from rfl, Nat.pow_zero, Nat.mul_one] at this
    rw [hx.out] at this
    refine this.mono ?_
    rintro e w' ⟨A6, m6, c6, ps, rfl, q1, q2, q3, q4, q5⟩
    exact ⟨A6, m6, c6, ps, rfl, q1, (h.below q5).cells, q2, q3, q4, q5⟩
  have HP2 : Hid (∀ u, CellsS w w.heap.size false A n c ds e1 (w.heap.size + 1) true B m d es e2 (w.heap.size + 1 + 1) u → Calls Try.prog 31 #[.slice B m d, .int .i64 (q : Int)] u fun e w' => ∃ (A6 : Option Addr) (m6 c6 : Nat) (ps : List Nat), e = .returned (.slice A6 m6 c6) ∧ m6 ≤ 100000 ∧ CellsS w w.heap.size false A n c ds e1 (w.heap.size + 1) true B m d es e2 (w.heap.size + 1 + 1) w' ∧ Hid (Dig w' A6 m6 c6 ps ∧ D.Bare ps ∧ D.val ps = y ∧ Below u.heap.size u w')) := fun u hu => by
    have h := hu.2.2.2.2.2.2.out
    have this := rshl_any B m d es q u h.1.2.2.2.1 bb (by omega) (by omega)
    rw [hy.out] at this
    refine this.mono ?_
    rintro e w' ⟨A6, m6, c6, ps, rfl, q1, q2, q3, q4, q5⟩
    exact ⟨A6, m6, c6, ps, rfl, q1, (h.below q5).cells, q2, q3, q4, q5⟩
  have hwq : IntKind.i64.wrap (q : Int) = (q : Int) := by rw [IntKind.wrap_i64]; omega
  have hw0 : IntKind.i64.wrap 0 = 0 := by decide
  have c1 : ((n : Int) == 0) = false := beq_no (by omega)
  have c2 : ((m : Int) == 0) = false := beq_no (by omega)
  have x1 := h0.1.1.c1
  have x2 := h0.1.1.c2
  have y1 := h0.1.2.1.c1
  have y2 := h0.1.2.1.c2
  have b1 : decide (e2 < e1) = false := decide_eq_false (by omega)
  clear hA hB ba bb hx hy h0 hn0 hm0
  go_enter Try.func11, Try.ntmps11
  go_wp2_with fail
  go_region_held3 (fun w' => w'.cell? ⟨w.heap.size, 0, none⟩ = some (.bool false) ∧ w'.cell? ⟨w.heap.size, 1, none⟩ = some (.slice A n c) ∧ w'.cell? ⟨w.heap.size, 2, none⟩ = some (.int .i64 e1) ∧ w'.cell? ⟨w.heap.size + 1, 0, none⟩ = some (.bool true) ∧ w'.cell? ⟨w.heap.size + 1, 1, none⟩ = some (.slice B m d) ∧ w'.cell? ⟨w.heap.size + 1, 2, none⟩ = some (.int .i64 e2) ∧ Hid (HS3 w w.heap.size false A n c ds e1 (w.heap.size + 1) true B m d es e2 (w.heap.size + 1 + 1) w'))
    (first | (with_reducible exact K0.out) | (with_reducible assumption))
    (first | (go_at_call 31; (with_reducible refine (HP1.out _ (by first | (with_reducible exact K0.out) | (with_reducible assumption))).mono ?_); rintro e w1 ⟨A6, m6, c6, ps, rfl, hm6, hY, hP6⟩) | (go_at_call 31; (with_reducible refine (HP2.out _ (by first | (with_reducible exact K0.out) | (with_reducible assumption))).mono ?_); rintro e w2 ⟨A7, m7, c7, qs, rfl, hm7, hZ, hP7⟩))
  have G1 := hP6.out.1.below hP7.out.2.2.2
  have G2 := hP7.out.1
  have HZ := Lib.hid hZ.2.2.2.2.2.2.out
  have HB := Lib.hid (And.intro hP6.out.2.1 (And.intro hP6.out.2.2.1 (And.intro hP7.out.2.1 hP7.out.2.2.1)))
  have Z0 := Lib.hid (HZ.out.below (below_drew _)).cells
  have HC : Hid (∀ u, Dig u A6 m6 c6 ps → Dig u A7 m7 c7 qs → CellsS w w.heap.size false A n c ds e1 (w.heap.size + 1) true B m d es e2 (w.heap.size + 1 + 1) u → Calls Try.prog 34 #[.slice A7 m7 c7, .slice A6 m6 c6] u fun e w' => ∃ (A8 : Option Addr) (m8 c8 : Nat) (rs : List Nat), e = .returned (.slice A8 m8 c8) ∧ m8 ≤ 100001 ∧ CellsS w w.heap.size false A n c ds e1 (w.heap.size + 1) true B m d es e2 (w.heap.size + 1 + 1) w' ∧ Hid (Dig w' A8 m8 c8 rs ∧ D.Bare rs ∧ D.val rs = y - x)) := fun u d1 d2 hu => by
    have h := hu.2.2.2.2.2.2.out
    refine (rsub_any A7 m7 c7 qs A6 m6 c6 ps u d2 d1 HB.out.1 (by rw [HB.out.2.1, HB.out.2.2.2]; omega) (by omega) (by omega)).mono ?_
    rintro e w' ⟨A8, m8, c8, rs, rfl, q1, q2, q3, q4, q5⟩
    exact ⟨A8, m8, c8, rs, rfl, by omega, (h.below q5).cells, q2, q3, by rw [q4, HB.out.2.1, HB.out.2.2.2]⟩
  obtain ⟨z, hz⟩ : ∃ z, cmpZ x y = z := ⟨_, rfl⟩
  have HR := rcmp_any A6 m6 c6 ps A7 m7 c7 qs w2 G1 G2 HB.out.1 HB.out.2.2.1 (by omega) (by omega)
  rw [HB.out.2.1, HB.out.2.2.2, hz] at HR
  have HR := Lib.hid HR
  have b3 : decide (0 ≤ z) = false := by
    rw [← hz]
    rw [cmpZ_lt ho]; rfl
  have G1h := Lib.hid G1
  have G2h := Lib.hid G2
  clear hz
  clear K0 HP1 HP2 hY hP6 hP7 c1 c2 x1 x2 y1 y2 b1 G1 G2
  obtain ⟨x0, x1, x2, y0, y1, y2, _⟩ := hZ
  go_wp2_with fail
  refine HR.out.mono ?_
  rintro e w3 ⟨rfl, nq, rfl⟩
  have Hq := Lib.hid (HZ.out.below (below_drewN (Below.refl _ _) nq))
  have Zq := Lib.hid (HZ.out.below (below_drewN (Below.refl _ _) (nq + 1))).cells
  have Zr := Lib.hid (Hq.out.below (below_drew _)).cells
  have G1q := Lib.hid (G1h.out.drewN (nq + 1))
  have G2q := Lib.hid (G2h.out.drewN (nq + 1))
  obtain ⟨v0, v1, v2, s0, s1, s2, _⟩ := Hq.out.cells
  clear x0 x1 x2 y0 y1 y2 HR HZ Z0
  go_wp2_with fail
  go_region_held3 (fun w' => w'.cell? ⟨w.heap.size + 1, 0, none⟩ = some (.bool true))
    (first | (with_reducible exact Zq.out.2.2.2.1) | (with_reducible exact Zr.out.2.2.2.1) | (with_reducible exact Kp.out) | (with_reducible exact hX.2.2.2.1))
    ((go_at_call 34; (with_reducible refine (HC.out _ G1q.out G2q.out Zq.out).mono ?_); rintro e w9 ⟨A8, m8, c8, rs, rfl, hm8, hX, hP8⟩; have kb := hX.2.2.2.2.2.2.out.2; have u0 := kb.c0; have u1 := kb.c1; have u2 := kb.c2; have uf := kb.fz; have Hfin : Hid (NTold w ⟨true, y - x, e1⟩ 100001 (.returned (.agg #[.bool true, .slice A8 m8 c8, .int .i64 e1])) (World.put w9 (w.heap.size + 1 + 1) true A8 m8 c8 e1)) := ⟨A8, m8, c8, rs, rfl, hm8, kb.dig hP8.out.1 _ _ _ _ _, hP8.out.2.1, hP8.out.2.2, below_put hX.2.2.2.2.2.2.out.1.2.2.2.2 (by omega) _ _ _ _ _⟩; have hW := hX.2.2.2.2.2.2.out; have Kp : Hid (World.cell? (World.put w9 (w.heap.size + 1 + 1) true A8 m8 c8 e1) ⟨w.heap.size + 1, 0, none⟩ = some (.bool true)) := (hW.1.2.1.other (by omega) _ _ _ _ _).c0; clear kb hP8 hW))
  all_goals (
    go_wp2_with fail
    exact bodyPost_ret (v := .agg #[.bool true, .slice A8 m8 c8, .int .i64 e1]) (by simp [results, Try.results11, go_sem, u0, u1, u2]) rfl Hfin.out)

end Go.Proofs.Ytfccpjjdemanbaa
/- The document's numbers: planimeterref05.Cmp of two that aren't below 0, the second one above it. -/
namespace Go.Proofs.Ytfccpjjdemanbaa
open Go.RowKit

section
variable {w : World} {b t : Nat} {g : Bool} {A : Option Addr} {n c : Nat} {e : Int}
theorem neg_heap (w : World) (b : Nat) (v : Value) (k : Nat) (hk : k ≠ b) : (w.setCell ⟨b, 0, none⟩ v).heap[k]? = w.heap[k]? := Below.heap_setCell _ _ _ _ hk
theorem neg_size (w : World) (b : Nat) (v : Value) : (w.setCell ⟨b, 0, none⟩ v).heap.size = w.heap.size := by simp [World.setCell]
theorem Bd.neg_ (h : Bd w b t g A n c e) (g' : Bool) : Bd (w.setCell ⟨b, 0, none⟩ (.bool g')) b t g' A n c e := by
  unfold Bd at h ⊢
  simp [World.setCell, Array.getElem?_modify, h]
theorem Bd.neg_other (h : Bd w b t g A n c e) {b' : Nat} (hb : b ≠ b') (v : Value) : Bd (w.setCell ⟨b', 0, none⟩ v) b t g A n c e := by
  unfold Bd; rw [neg_heap _ _ _ _ hb]; exact h
theorem Bd.neg_dig (h : Bd w b t g A n c e) {A1 : Option Addr} {n1 c1 : Nat} {ds : List Nat} (hA : Dig w A1 n1 c1 ds) (v : Value) : Dig (w.setCell ⟨b, 0, none⟩ v) A1 n1 c1 ds :=
  ⟨⟨hA.1.1, hA.1.2.1, fun hn => by
    obtain ⟨k, o, ek, hk, hc⟩ := hA.at_ hn
    have hne : k ≠ b := by
      rintro rfl
      have := h.not (hc 0 hn)
      cases this
    exact ⟨k, o, ek, by rw [neg_size]; exact hk, fun j hj => by rw [World.cell?_of_block (w := w) (neg_heap w b v k hne)]; exact hc j hj⟩⟩, hA.2⟩
end

theorem sz_both {V U q : Nat} {e1 e2 : Int} (h1 : -1073741824 ≤ e2) (h2 : e1 ≤ 1073741824) (hq : e1 - e2 = (q : Int)) : cmpZ (sz V e1) (sz U e2) = cmpZ (V * 2 ^ q) U := by
  have hh : held e1 = held e2 + q := by rw [held_id (by omega) h2, held_id h1 (by omega)]; omega
  rw [sz_shift hh]
  unfold sz
  exact cmpZ_times (Nat.two_pow_pos _)
theorem cmpZ_anti (x y : Nat) : cmpZ y x = - cmpZ x y := by
  rcases Nat.lt_trichotomy x y with h | h | h
  · rw [cmpZ_gt h, cmpZ_lt h]; rfl
  · rw [cmpZ_eq h, cmpZ_eq h.symm]; rfl
  · rw [cmpZ_lt h, cmpZ_gt h]
theorem sgD_ge {x y : Nat} (h : y ≤ x) : sgD false (x - y) = cmpZ x y := by
  unfold sgD
  by_cases he : x = y
  · rw [if_pos (by omega), cmpZ_eq he]
  · rw [if_neg (by omega), cmpZ_gt (by omega)]; rfl
theorem sgD_lt {x y : Nat} (h : x < y) : sgD true (y - x) = cmpZ x y := by
  unfold sgD
  rw [if_neg (by omega), cmpZ_lt h]; rfl

/-- One less another: its sign tells the order. -/
theorem radd_less (v : Int) (A : Option Addr) (n c : Nat) (ds : List Nat) (e1 : Int) (B : Option Addr) (m d : Nat) (es : List Nat) (e2 : Int) (w : World) (hA : Dig w A n c ds) (hB : Dig w B m d es) (ba : D.Bare ds) (bb : D.Bare es) (hn : n ≤ 1000) (hm : m ≤ 1000) (hn0 : n ≠ 0) (hm0 : m ≠ 0)
    (h1 : -1073741824 ≤ e1) (h2 : e1 ≤ 1073741824) (h3 : -1073741824 ≤ e2) (h4 : e2 ≤ 1073741824) (h5 : e1 ≤ e2 + 4000) (h6 : e2 ≤ e1 + 4000) (hv : cmpZ (sz (D.val ds) e1) (sz (D.val es) e2) = v) :
    Calls Try.prog 11 #[.agg #[.bool false, .slice A n c, .int .i64 e1], .agg #[.bool true, .slice B m d, .int .i64 e2]] w fun e w' => ∃ (o : Dy), NTold w o 100001 e w' ∧ sgD o.neg o.V = v := by
  by_cases hl : e2 < e1
  · obtain ⟨q, hq⟩ : ∃ q : Nat, e1 - e2 = (q : Int) := ⟨(e1 - e2).toNat, by omega⟩
    rw [sz_both h3 h2 hq] at hv
    obtain ⟨x, hx⟩ : ∃ x, D.val ds * 2 ^ q = x := ⟨_, rfl⟩
    obtain ⟨y, hy⟩ : ∃ y, D.val es = y := ⟨_, rfl⟩
    rw [hx, hy] at hv
    rcases Nat.lt_or_ge x y with ho | ho
    · refine (radd_lt_L x y q A n c ds e1 B m d es e2 w hA hB ba bb hn hm hn0 hm0 hq (by omega) hl hx hy ho).mono fun e w' h => ⟨_, h, by rw [← hv]; exact sgD_lt ho⟩
    · refine (radd_ge_L x y q A n c ds e1 B m d es e2 w hA hB ba bb hn hm hn0 hm0 hq (by omega) hl hx hy ho).mono fun e w' h => ⟨_, h, by rw [← hv]; exact sgD_ge ho⟩
  · obtain ⟨q, hq⟩ : ∃ q : Nat, e2 - e1 = (q : Int) := ⟨(e2 - e1).toNat, by omega⟩
    have hv2 : cmpZ (D.val ds) (D.val es * 2 ^ q) = v := by
      rw [cmpZ_anti, sz_both h1 h4 hq] at hv
      rw [cmpZ_anti]; exact hv
    obtain ⟨x, hx⟩ : ∃ x, D.val ds = x := ⟨_, rfl⟩
    obtain ⟨y, hy⟩ : ∃ y, D.val es * 2 ^ q = y := ⟨_, rfl⟩
    rw [hx, hy] at hv2
    rcases Nat.lt_or_ge x y with ho | ho
    · refine (radd_lt_G x y q A n c ds e1 B m d es e2 w hA hB ba bb hn hm hn0 hm0 hq (by omega) hx hy ho).mono fun e w' h => ⟨_, h, by rw [← hv2]; exact sgD_lt ho⟩
    · refine (radd_ge_G x y q A n c ds e1 B m d es e2 w hA hB ba bb hn hm hn0 hm0 hq (by omega) hx hy ho).mono fun e w' h => ⟨_, h, by rw [← hv2]; exact sgD_ge ho⟩

set_option maxHeartbeats 2000000 in
theorem rncmp_l (v : Int) (A : Option Addr) (n c : Nat) (ds : List Nat) (e1 : Int) (B : Option Addr) (m d : Nat) (es : List Nat) (e2 : Int) (w : World) (hA : Dig w A n c ds) (hB : Dig w B m d es) (ba : D.Bare ds) (bb : D.Bare es) (hn : n ≤ 240) (hm : m ≤ 240) (hU : D.val es ≠ 0)
    (h1 : -1073741824 ≤ e1) (h2 : e1 ≤ 1073741824) (h3 : -1073741824 ≤ e2) (h4 : e2 ≤ 1073741824) (hv : Hid (cmpZ (sz (D.val ds) e1) (sz (D.val es) e2) = v)) :
    Calls Try.prog 38 #[.agg #[.bool false, .slice A n c, .int .i64 e1], .agg #[.bool false, .slice B m d, .int .i64 e2]] w fun e w' => e = .returned (.int .i64 v) ∧ Below w.heap.size w w' := by
  obtain ⟨s1, hs1⟩ : ∃ s, sgD false (D.val ds) = s := ⟨_, rfl⟩
  have hs2 : sgD false (D.val es) = 1 := by unfold sgD; rw [if_neg hU]; rfl
  have H0 := Lib.hid ((HN.start w false A n c ds e1 false B m d es e2 hA hB).below (below_drew _))
  have HS1 : Hid (∀ u, CellsN w w.heap.size false A n c ds e1 (w.heap.size + 1) false B m d es e2 u → Calls Try.prog 46 #[.agg #[.bool false, .slice A n c, .int .i64 e1]] u fun e w' => e = .returned (.int .i64 s1) ∧ CellsN w w.heap.size false A n c ds e1 (w.heap.size + 1) false B m d es e2 w') := fun u hu => by
    have h := hu.2.2.2.2.2.2.out
    refine (rsign_l s1 false A n c ds e1 u h.2.2.1 ba hs1).mono ?_
    rintro e w' ⟨rfl, hb⟩
    exact ⟨rfl, (h.below hb).cells⟩
  have HS2 : Hid (∀ u, CellsN w w.heap.size false A n c ds e1 (w.heap.size + 1) false B m d es e2 u → Calls Try.prog 46 #[.agg #[.bool false, .slice B m d, .int .i64 e2]] u fun e w' => e = .returned (.int .i64 1) ∧ CellsN w w.heap.size false A n c ds e1 (w.heap.size + 1) false B m d es e2 w') := fun u hu => by
    have h := hu.2.2.2.2.2.2.out
    refine (rsign_l 1 false B m d es e2 u h.2.2.2.1 bb hs2).mono ?_
    rintro e w' ⟨rfl, hb⟩
    exact ⟨rfl, (h.below hb).cells⟩
  have hz := dnil_iff hA ba
  have hz2 := dnil_iff hB bb
  have lt1 := D.val_lt hA.words
  have lt2 := D.val_lt hB.words
  rw [hA.len, D.pw_two] at lt1
  rw [hB.len, D.pw_two] at lt2
  have bl1 := blen_le_iff.2 lt1
  have bl2 := blen_le_iff.2 lt2
  have hv' := hv.out
  have HBA := Lib.hid ba
  have HBB := Lib.hid bb
  clear hA hB ba bb lt1 lt2 hs2 hv
  by_cases hV : D.val ds = 0
  · obtain rfl : s1 = 0 := by rw [← hs1, hV]; rfl
    obtain rfl : v = -1 := by
      rw [← hv', hV, sz_zero, cmpZ_lt (sz_pos e2 hU)]
    clear hs1 hv' hz hz2 bl1 bl2 hV hU
    go_enter Try.func38, Try.ntmps38
    go_wp2_with fail
    go_region_held3 (fun w' => w'.cell? ⟨w.heap.size, 0, none⟩ = some (.bool false) ∧ w'.cell? ⟨w.heap.size, 1, none⟩ = some (.slice A n c) ∧ w'.cell? ⟨w.heap.size, 2, none⟩ = some (.int .i64 e1) ∧ w'.cell? ⟨w.heap.size + 1, 0, none⟩ = some (.bool false) ∧ w'.cell? ⟨w.heap.size + 1, 1, none⟩ = some (.slice B m d) ∧ w'.cell? ⟨w.heap.size + 1, 2, none⟩ = some (.int .i64 e2) ∧ Hid (HN w w.heap.size false A n c ds e1 (w.heap.size + 1) false B m d es e2 w'))
      (first | (with_reducible exact H0.out.cells) | (with_reducible assumption))
      (first | (go_at_call 46; (with_reducible refine (HS1.out _ (by with_reducible assumption)).mono ?_); rintro e w1 ⟨rfl, hY⟩) | (go_at_call 46; (with_reducible refine (HS2.out _ (by with_reducible assumption)).mono ?_); rintro e w2 ⟨rfl, hZ⟩))
    have HF := Lib.hid hZ.2.2.2.2.2.2.out.2.2.2.2
    clear hY hZ HS1 HS2 H0
    go_wp2_with fail
    go_ret
    exact ⟨rfl, HF.out⟩
  · obtain rfl : s1 = 1 := by rw [← hs1]; unfold sgD; rw [if_neg hV]; rfl
    have hn0 : n ≠ 0 := fun h => hV (hz.1 h)
    have hm0 : m ≠ 0 := fun h => hU (hz2.1 h)
    have B1 := blen_pos hV
    have B2 := blen_pos hU
    obtain ⟨t1, ht1⟩ : ∃ t, rtop (D.val ds) e1 = t := ⟨_, rfl⟩
    obtain ⟨t2, ht2⟩ : ∃ t, rtop (D.val es) e2 = t := ⟨_, rfl⟩
    have HT1 : Hid (∀ u, CellsN w w.heap.size false A n c ds e1 (w.heap.size + 1) false B m d es e2 u → Calls Try.prog 21 #[.agg #[.bool false, .slice A n c, .int .i64 e1]] u fun e w' => e = .returned (.int .i64 t1) ∧ CellsN w w.heap.size false A n c ds e1 (w.heap.size + 1) false B m d es e2 w') := fun u hu => by
      have h := hu.2.2.2.2.2.2.out
      refine (rtop_l t1 false A n c ds e1 u h.2.2.1 HBA.out (by omega) (by omega) (by omega) ht1).mono ?_
      rintro e w' ⟨rfl, hb⟩
      exact ⟨rfl, (h.below hb).cells⟩
    have HT2 : Hid (∀ u, CellsN w w.heap.size false A n c ds e1 (w.heap.size + 1) false B m d es e2 u → Calls Try.prog 21 #[.agg #[.bool false, .slice B m d, .int .i64 e2]] u fun e w' => e = .returned (.int .i64 t2) ∧ CellsN w w.heap.size false A n c ds e1 (w.heap.size + 1) false B m d es e2 w') := fun u hu => by
      have h := hu.2.2.2.2.2.2.out
      refine (rtop_l t2 false B m d es e2 u h.2.2.2.1 HBB.out (by omega) (by omega) (by omega) ht2).mono ?_
      rintro e w' ⟨rfl, hb⟩
      exact ⟨rfl, (h.below hb).cells⟩
    have htt : t1 ≠ t2 → cmpI t1 t2 = v := fun h => by
      have e1' : topD (D.val ds) e1 = t1 := by unfold topD; rw [held_id h1 h2]; exact ht1
      have e2' : topD (D.val es) e2 = t2 := by unfold topD; rw [held_id h3 h4]; exact ht2
      have := cmp_tops (e := e1) (f := e2) hV hU (by rw [e1', e2']; exact h)
      rw [e1', e2'] at this
      rw [this, hv']
    have hnear : t1 = t2 → e1 ≤ e2 + 4000 ∧ e2 ≤ e1 + 4000 := fun h => by
      unfold rtop at ht1 ht2
      omega
    have Hv := Lib.hid hv'
    clear hs1 hv' hz hz2 hV hU ht1 ht2
    go_enter Try.func38, Try.ntmps38
    go_wp2_with fail
    go_region_held3 (fun w' => w'.cell? ⟨w.heap.size, 0, none⟩ = some (.bool false) ∧ w'.cell? ⟨w.heap.size, 1, none⟩ = some (.slice A n c) ∧ w'.cell? ⟨w.heap.size, 2, none⟩ = some (.int .i64 e1) ∧ w'.cell? ⟨w.heap.size + 1, 0, none⟩ = some (.bool false) ∧ w'.cell? ⟨w.heap.size + 1, 1, none⟩ = some (.slice B m d) ∧ w'.cell? ⟨w.heap.size + 1, 2, none⟩ = some (.int .i64 e2) ∧ Hid (HN w w.heap.size false A n c ds e1 (w.heap.size + 1) false B m d es e2 w'))
      (first | (with_reducible exact H0.out.cells) | (with_reducible assumption))
      (first | (go_at_call 46; (with_reducible refine (HS1.out _ (by with_reducible assumption)).mono ?_); rintro e w1 ⟨rfl, hY⟩) | (go_at_call 46; (with_reducible refine (HS2.out _ (by with_reducible assumption)).mono ?_); rintro e w2 ⟨rfl, hZ⟩))
    have K0 := Lib.hid (hZ.2.2.2.2.2.2.out.below (below_drew _)).cells
    clear hY hZ HS1 HS2 H0
    go_wp2_with fail
    go_region_held3 (fun w' => w'.cell? ⟨w.heap.size, 0, none⟩ = some (.bool false) ∧ w'.cell? ⟨w.heap.size, 1, none⟩ = some (.slice A n c) ∧ w'.cell? ⟨w.heap.size, 2, none⟩ = some (.int .i64 e1) ∧ w'.cell? ⟨w.heap.size + 1, 0, none⟩ = some (.bool false) ∧ w'.cell? ⟨w.heap.size + 1, 1, none⟩ = some (.slice B m d) ∧ w'.cell? ⟨w.heap.size + 1, 2, none⟩ = some (.int .i64 e2) ∧ Hid (HN w w.heap.size false A n c ds e1 (w.heap.size + 1) false B m d es e2 w'))
      (first | (with_reducible exact K0.out) | (with_reducible assumption))
      (first | (go_at_call 21; (with_reducible refine (HT1.out _ (by first | (with_reducible exact K0.out) | (with_reducible assumption))).mono ?_); rintro e w3 ⟨rfl, hY⟩) | (go_at_call 21; (with_reducible refine (HT2.out _ (by with_reducible assumption)).mono ?_); rintro e w4 ⟨rfl, hZ⟩))
    have K4 := Lib.hid (hZ.2.2.2.2.2.2.out.below (below_drew _)).cells
    have H4 := Lib.hid hZ.2.2.2.2.2.2.out
    obtain ⟨x0, x1, x2, y0, y1, y2, _⟩ := hZ
    clear hY K0
    by_cases hq : t1 = t2
    · obtain ⟨hq1, hq2⟩ := hnear hq
      have c1 : (t1 != t2) = false := bne_no hq
      have j1 := H4.out.1.neg_other (b' := w.heap.size + 1) (by omega) (.bool true)
      have j2 := H4.out.2.1.neg_ true
      have j3 := H4.out.2.1.neg_dig H4.out.2.2.1 (.bool true)
      have j4 := H4.out.2.1.neg_dig H4.out.2.2.2.1 (.bool true)
      have j5 := H4.out.2.2.2.2.setCell (p := ⟨w.heap.size + 1, 0, none⟩) (by show w.heap.size ≤ w.heap.size + 1; omega) (.bool true)
      have yf := H4.out.2.1.fz
      have HA := Lib.hid (radd_less v A n c ds e1 B m d es e2 _ j3 j4 HBA.out HBB.out (by omega) (by omega) hn0 hm0 h1 h2 h3 h4 hq1 hq2 Hv.out)
      have HJ := Lib.hid j5
      clear j1 j2 j3 j4 j5 H4 K4 htt hnear hq hq1 hq2 Hv HT1 HT2 HBA HBB bl1 bl2 B1 B2 hn0 hm0
      go_wp2_with fail
      refine HA.out.mono ?_
      rintro e w5 ⟨⟨og, oV, oE⟩, ⟨A5, m5, c5, rs, rfl, hm5, hl5, hd5, hv5, hb5⟩, hs⟩
      have HG := Lib.hid (rsign_l v og A5 m5 c5 rs oE w5 hl5 hd5 (by rw [hv5]; exact hs))
      have HS5 := Lib.hid (HJ.out.trans (hb5.mono HJ.out.size))
      clear hl5 hd5 hv5 hb5 hs HA HJ x0 x1 x2 y0 y1 y2 yf
      go_wp2_with fail
      refine HG.out.mono ?_
      rintro e w6 ⟨rfl, hb6⟩
      have Hfin := Lib.hid (HS5.out.trans (hb6.mono HS5.out.size))
      clear hb6 HS5 HG
      go_wp2
      go_ret
      exact ⟨rfl, Hfin.out⟩
    · have hvv := htt hq
      have c1 : (t1 != t2) = true := bne_yes hq
      clear htt hnear Hv HBA HBB bl1 bl2 B1 B2 hn0 hm0 H4
      rcases Int.lt_or_le t1 t2 with hlt | hge
      · obtain rfl : v = -1 := by rw [← hvv]; exact cmpI_lt hlt
        have b1 : decide (t1 < t2) = true := decide_eq_true hlt
        clear hvv hq hlt
        go_wp2_with fail
        go_region_held3 (fun w' => w'.cell? ⟨w.heap.size, 0, none⟩ = some (.bool false) ∧ w'.cell? ⟨w.heap.size, 1, none⟩ = some (.slice A n c) ∧ w'.cell? ⟨w.heap.size, 2, none⟩ = some (.int .i64 e1) ∧ w'.cell? ⟨w.heap.size + 1, 0, none⟩ = some (.bool false) ∧ w'.cell? ⟨w.heap.size + 1, 1, none⟩ = some (.slice B m d) ∧ w'.cell? ⟨w.heap.size + 1, 2, none⟩ = some (.int .i64 e2) ∧ Hid (HN w w.heap.size false A n c ds e1 (w.heap.size + 1) false B m d es e2 w'))
          (first | (with_reducible exact K4.out) | (with_reducible assumption))
          (first | (go_at_call 21; (with_reducible refine (HT1.out _ (by first | (with_reducible exact K4.out) | (with_reducible assumption))).mono ?_); rintro e w5 ⟨rfl, hY⟩) | (go_at_call 21; (with_reducible refine (HT2.out _ (by with_reducible assumption)).mono ?_); rintro e w6 ⟨rfl, hZ⟩))
        all_goals (
          have HF := Lib.hid hZ.2.2.2.2.2.2.out.2.2.2.2
          clear hY hZ HT1 HT2 K4 x0 x1 x2 y0 y1 y2
          go_wp2_with fail
          go_ret
          exact ⟨rfl, HF.out⟩)
      · obtain rfl : v = 1 := by rw [← hvv]; exact cmpI_gt (by omega)
        have b1 : decide (t1 < t2) = false := decide_eq_false (by omega)
        clear hvv hq hge
        go_wp2_with fail
        go_region_held3 (fun w' => w'.cell? ⟨w.heap.size, 0, none⟩ = some (.bool false) ∧ w'.cell? ⟨w.heap.size, 1, none⟩ = some (.slice A n c) ∧ w'.cell? ⟨w.heap.size, 2, none⟩ = some (.int .i64 e1) ∧ w'.cell? ⟨w.heap.size + 1, 0, none⟩ = some (.bool false) ∧ w'.cell? ⟨w.heap.size + 1, 1, none⟩ = some (.slice B m d) ∧ w'.cell? ⟨w.heap.size + 1, 2, none⟩ = some (.int .i64 e2) ∧ Hid (HN w w.heap.size false A n c ds e1 (w.heap.size + 1) false B m d es e2 w'))
          (first | (with_reducible exact K4.out) | (with_reducible assumption))
          (first | (go_at_call 21; (with_reducible refine (HT1.out _ (by first | (with_reducible exact K4.out) | (with_reducible assumption))).mono ?_); rintro e w5 ⟨rfl, hY⟩) | (go_at_call 21; (with_reducible refine (HT2.out _ (by with_reducible assumption)).mono ?_); rintro e w6 ⟨rfl, hZ⟩))
        all_goals (
          have HF := Lib.hid hZ.2.2.2.2.2.2.out.2.2.2.2
          clear hY hZ HT1 HT2 K4 x0 x1 x2 y0 y1 y2
          go_wp2_with fail
          go_ret
          exact ⟨rfl, HF.out⟩)
end Go.Proofs.Ytfccpjjdemanbaa
/- The document's rounding: planimeterref07.Limit, value, Below. -/
namespace Go.Proofs.Ytfccpjjdemanbaa
open Go.RowKit

theorem dig_new1 (w : World) (t x : Nat) (X : Int) (hX : X = (x : Int)) (hx : x < 65536) : Dig (w.alloc (.cells #[.int .u32 X] t)) (some ⟨w.heap.size, 0, none⟩) 1 1 [x] :=
  ⟨⟨rfl, Nat.le_refl _, fun _ => ⟨w.heap.size, 0, rfl, by simp, fun k hk => by
    obtain rfl : k = 0 := by omega
    subst hX
    simp [World.cell?_alloc_new]⟩⟩, D.Words.one hx⟩
theorem dbare_one {x : Nat} (hx : x ≠ 0) : D.Bare [x] := by
  unfold D.Bare
  simp [D.tl, hx]
theorem dval_one (x : Nat) : D.val [x] = x := by show x + 65536 * 0 = x; omega

theorem limit_l (w : World) : Calls Try.prog 51 #[] w (NTold w ⟨false, 1, 1024⟩ 4) := by
  have a1 := below1 w (.cells #[.bool false, .slice (some ⟨w.heap.size + 1, 0, none⟩) 1 1, .int .i64 1024] 29)
  have a2 := below1 (w.alloc (.cells #[.bool false, .slice (some ⟨w.heap.size + 1, 0, none⟩) 1 1, .int .i64 1024] 29)) (.cells #[.int .u32 1] 58)
  have n1 := dig_new1 (w.alloc (.cells #[.bool false, .slice (some ⟨w.heap.size + 1, 0, none⟩) 1 1, .int .i64 1024] 29)) 58 1 1 rfl (by decide)
  rw [World.size_alloc] at n1
  have Hfin : Hid (NTold w ⟨false, 1, 1024⟩ 4 (.returned (.agg #[.bool false, .slice (some ⟨w.heap.size + 1, 0, none⟩) 1 1, .int .i64 1024])) ((w.alloc (.cells #[.bool false, .slice (some ⟨w.heap.size + 1, 0, none⟩) 1 1, .int .i64 1024] 29)).alloc (.cells #[.int .u32 1] 58))) :=
    ⟨_, 1, 1, [1], rfl, by decide, n1, dbare_one (by decide), dval_one 1, a1.trans (a2.mono a1.size)⟩
  clear a1 a2 n1
  go_enter Try.func51, Try.ntmps51
  go_wp2
  exact bodyPost_ret (v := .agg #[.bool false, .slice (some ⟨w.heap.size + 1, 0, none⟩) 1 1, .int .i64 1024]) (by simp [results, Try.results51, go_sem]) rfl Hfin.out

/-- The number of bits without a sign; infinity's is 2^1024. -/
def vO (b : Nat) : Dy := if b = 9218868437227405312 then ⟨false, 1, 1024⟩ else fO b
theorem sz_inf {e : Int} (h : e = 1024) : sz 1 e = vX 9218868437227405312 := by
  have h1 := sh_eq (e := e) (by omega) (by omega)
  have h2 := kb_eq
  rw [vX_inf, sz, Nat.one_mul]
  congr 1
  omega
theorem vO_facts {b : Nat} (hb : b ≤ 9218868437227405312) : (vO b).neg = false ∧ sz (vO b).V (vO b).e = vX b ∧ -1074 ≤ (vO b).e ∧ (vO b).e ≤ 1024 ∧ (vO b).V < 9007199254740992 ∧ ((vO b).V = 0 ↔ b = 0) := by
  by_cases h : b = 9218868437227405312
  · have e : vO b = ⟨false, 1, 1024⟩ := by unfold vO; rw [if_pos h]
    rw [e]
    refine ⟨rfl, ?_, by decide, by decide, by decide, ?_⟩
    · rw [h]; exact sz_inf (e := 1024) rfl
    · show (1 : Nat) = 0 ↔ b = 0; omega
  · have e : vO b = fO b := by unfold vO; rw [if_neg h]
    rw [e]
    have hf : Fnt b := by unfold Fnt fex; omega
    have hng : fng b = false := decide_eq_false (by omega)
    have hs := fO_size hf
    rw [Nat.mod_eq_of_lt (show b < 9223372036854775808 by omega)] at hs
    have hp := x_parts (X := b) (by omega)
    by_cases h0 : fm b = 0
    · have hz : fO b = ⟨false, 0, 0⟩ := fO_zero h0
      refine ⟨by rw [hz], hs, by rw [hz]; decide, by rw [hz]; decide, by rw [hz]; decide, ?_⟩
      rw [hz]
      show (0 : Nat) = 0 ↔ b = 0
      rw [h0] at hp
      constructor
      · intro _
        rcases Nat.eq_zero_or_pos (fE b) with h9 | h9
        · have := hp.1; rw [h9] at this; omega
        · have := hp.2.2.1 h9; omega
      · intro _; rfl
    · obtain ⟨k1, k2, k3⟩ := fO_pos hf h0
      have hbd := fe_bd hf
      have hl : low (fm b) < 53 := by
        refine (low_lt_iff (Nat.pos_of_ne_zero h0)).2 ?_
        have := (f_parts b).2.1
        show fm b % 9007199254740992 ≠ 0
        omega
      refine ⟨by rw [k1, hng], hs, by rw [k3]; omega, by rw [k3]; omega, ?_, ?_⟩
      · rw [k2]; exact Nat.lt_of_le_of_lt (Nat.div_le_self _ _) hp.2.1
      · rw [k2]
        constructor
        · intro h9; exact absurd (odd_part_zero.1 h9) h0
        · intro h9
          subst h9
          exact absurd (show fm 0 = 0 from by decide) h0

theorem rvalue_l (b : Nat) (hb : b ≤ 9218868437227405312) (w : World) : Calls Try.prog 44 #[.int .u64 (b : Int)] w (NTold w (vO b) 4) := by
  have a1 := below1 w (.cells #[.bool false, .slice none 0 0, .int .i64 0] 29)
  have HS := Lib.hid a1
  have Hb := Lib.hid (Bd.new w 29 false none 0 0 0)
  by_cases h : b = 9218868437227405312
  · have e : vO b = ⟨false, 1, 1024⟩ := by unfold vO; rw [if_pos h]
    rw [e]
    have H1 := Lib.hid (limit_l (w.alloc (.cells #[.bool false, .slice none 0 0, .int .i64 0] 29)))
    subst h
    clear a1 e hb
    go_enter Try.func44, Try.ntmps44
    go_wp2_with fail
    refine H1.out.mono ?_
    rintro e w2 ⟨A2, m2, c2, es, rfl, hm2, hl2, hd2, hv2, hB2⟩
    have k2 := Hb.out.below hB2
    have Hfin : Hid (NTold w ⟨false, 1, 1024⟩ 4 (.returned (.agg #[.bool false, .slice A2 m2 c2, .int .i64 1024])) (World.put w2 w.heap.size false A2 m2 c2 1024)) :=
      ⟨A2, m2, c2, es, rfl, hm2, k2.dig hl2 _ _ _ _ _, hd2, hv2, below_put (HS.out.trans (hB2.mono HS.out.size)) (Nat.le_refl _) _ _ _ _ _⟩
    have y0 := k2.c0
    have y1 := k2.c1
    have y2 := k2.c2
    have yf := k2.fz
    clear k2 hB2 hl2 hd2 hv2 H1 Hb HS
    go_wp2
    exact bodyPost_ret (v := .agg #[.bool false, .slice A2 m2 c2, .int .i64 1024]) (by simp [results, Try.results44, go_sem, y0, y1, y2]) rfl Hfin.out
  · have e : vO b = fO b := by unfold vO; rw [if_neg h]
    rw [e]
    have H1 := Lib.hid (worth_any b (by omega) (w.alloc (.cells #[.bool false, .slice none 0 0, .int .i64 0] 29)))
    have c1 : ((b : Int) == 9218868437227405312) = false := beq_no (by omega)
    generalize fO b = dd at H1 ⊢
    obtain ⟨dg, dV, dE⟩ := dd
    clear a1 e hb h
    go_enter Try.func44, Try.ntmps44
    go_wp2_with fail
    refine H1.out.mono ?_
    rintro e w2 ⟨A2, m2, c2, es, rfl, hm2, hl2, hd2, hv2, hB2⟩
    have k2 := Hb.out.below hB2
    have Hfin : Hid (NTold w ⟨dg, dV, dE⟩ 4 (.returned (.agg #[.bool dg, .slice A2 m2 c2, .int .i64 dE])) (World.put w2 w.heap.size dg A2 m2 c2 dE)) :=
      ⟨A2, m2, c2, es, rfl, hm2, k2.dig hl2 _ _ _ _ _, hd2, hv2, below_put (HS.out.trans (hB2.mono HS.out.size)) (Nat.le_refl _) _ _ _ _ _⟩
    have y0 := k2.c0
    have y1 := k2.c1
    have y2 := k2.c2
    have yf := k2.fz
    clear k2 hB2 hl2 hd2 hv2 H1 Hb HS
    go_wp2
    exact bodyPost_ret (v := .agg #[.bool dg, .slice A2 m2 c2, .int .i64 dE]) (by simp [results, Try.results44, go_sem, y0, y1, y2]) rfl Hfin.out
end Go.Proofs.Ytfccpjjdemanbaa
/- The document's rounding: planimeterref07.Below. -/
namespace Go.Proofs.Ytfccpjjdemanbaa
open Go.RowKit

/-- A number of the document, in its box. -/
def HoldB (w : World) (A : Option Addr) (n c : Nat) (ds : List Nat) (e0 : Int) (u : World) : Prop :=
  Bd u w.heap.size 29 false A n c e0 ∧ Dig u A n c ds ∧ Below w.heap.size w u
abbrev CellsB (w : World) (A : Option Addr) (n c : Nat) (ds : List Nat) (e0 : Int) (w' : World) : Prop :=
  w'.cell? ⟨w.heap.size, 0, none⟩ = some (.bool false) ∧ w'.cell? ⟨w.heap.size, 1, none⟩ = some (.slice A n c) ∧ w'.cell? ⟨w.heap.size, 2, none⟩ = some (.int .i64 e0) ∧ Hid (HoldB w A n c ds e0 w')
section
variable {w : World} {A : Option Addr} {n c : Nat} {ds : List Nat} {e0 : Int} {u u' : World}
theorem HoldB.below (h : HoldB w A n c ds e0 u) (hb : Below u.heap.size u u') : HoldB w A n c ds e0 u' := ⟨h.1.below hb, h.2.1.below hb, h.2.2.trans (hb.mono h.2.2.size)⟩
theorem HoldB.cells (h : HoldB w A n c ds e0 u) : CellsB w A n c ds e0 u := ⟨h.1.c0, h.1.c1, h.1.c2, h⟩
end

/-- A value, while a number is held. -/
theorem hold_value {w : World} {A : Option Addr} {n c : Nat} {ds : List Nat} {e0 : Int} (b : Nat) (hb : b ≤ 9218868437227405312) (u : World) (hu : CellsB w A n c ds e0 u) :
    Calls Try.prog 44 #[.int .u64 (b : Int)] u fun e w' => ∃ (A1 : Option Addr) (m1 c1 : Nat) (us : List Nat), e = .returned (.agg #[.bool false, .slice A1 m1 c1, .int .i64 (vO b).e]) ∧ m1 ≤ 4 ∧ CellsB w A n c ds e0 w' ∧ Hid (Dig w' A1 m1 c1 us ∧ D.Bare us ∧ D.val us = (vO b).V) := by
  refine (rvalue_l b hb u).mono ?_
  rintro e w' ⟨A1, m1, c1, us, rfl, h1, h2, h3, h4, h5⟩
  rw [(vO_facts hb).1]
  exact ⟨A1, m1, c1, us, rfl, h1, (hu.2.2.2.out.below h5).cells, h2, h3, h4⟩
/-- .. held against it. -/
theorem hold_cmp {w : World} {A : Option Addr} {n c : Nat} {ds : List Nat} {e0 : Int} (v : Int) (b : Nat) (hb : b ≤ 9218868437227405312) (hn : n ≤ 240) (ba : D.Bare ds) (hV : D.val ds ≠ 0) (h1 : -1073741824 ≤ e0) (h2 : e0 ≤ 1073741824) (hv : cmpZ (vX b) (sz (D.val ds) e0) = v)
    (A1 : Option Addr) (m1 c1 : Nat) (us : List Nat) (E1 : Int) (hE : (vO b).e = E1) (u : World) (hu : CellsB w A n c ds e0 u) (hm : m1 ≤ 4) (hP : Dig u A1 m1 c1 us ∧ D.Bare us ∧ D.val us = (vO b).V) :
    Calls Try.prog 38 #[.agg #[.bool false, .slice A1 m1 c1, .int .i64 E1], .agg #[.bool false, .slice A n c, .int .i64 e0]] u fun e w' => e = .returned (.int .i64 v) ∧ CellsB w A n c ds e0 w' := by
  have hf := vO_facts hb
  have h := hu.2.2.2.out
  subst hE
  refine (rncmp_l v A1 m1 c1 us (vO b).e A n c ds e0 u hP.1 h.2.1 hP.2.1 ba (by omega) hn hV (by omega) (by omega) h1 h2 (by rw [hP.2.2, hf.2.1]; exact hv)).mono ?_
  rintro e w' ⟨rfl, hb'⟩
  exact ⟨rfl, (h.below hb').cells⟩

set_option maxHeartbeats 2000000 in
theorem rbelow_l (X : Nat) (A : Option Addr) (n c : Nat) (ds : List Nat) (e0 : Int) (w : World) (hA : Dig w A n c ds) (ba : D.Bare ds) (hn : n ≤ 240) (hV : D.val ds ≠ 0) (h1 : -1073741824 ≤ e0) (h2 : e0 ≤ 1073741824) (hX : IsLow (sz (D.val ds) e0) X) :
    Calls Try.prog 43 #[.agg #[.bool false, .slice A n c, .int .i64 e0]] w fun e w' => e = .returned (.int .u64 (X : Int)) ∧ Below w.heap.size w w' := by
  have a1 := below1 w (.cells #[.bool false, .slice A n c, .int .i64 e0] 29)
  have H0 : HoldB w A n c ds e0 _ := ⟨Bd.new w 29 false A n c e0, hA.below a1, a1⟩
  have K0 := Lib.hid (H0.below (below_drew _)).cells
  obtain ⟨S, hS⟩ : ∃ S, sz (D.val ds) e0 = S := ⟨_, rfl⟩
  have HL : Hid (∀ u, CellsB w A n c ds e0 u → Calls Try.prog 51 #[] u fun e w' => ∃ (A1 : Option Addr) (m1 c1 : Nat) (us : List Nat), e = .returned (.agg #[.bool false, .slice A1 m1 c1, .int .i64 1024]) ∧ m1 ≤ 4 ∧ CellsB w A n c ds e0 w' ∧ Hid (Dig w' A1 m1 c1 us ∧ D.Bare us ∧ D.val us = (vO 9218868437227405312).V)) := fun u hu => by
    refine (limit_l u).mono ?_
    rintro e w' ⟨A1, m1, c1, us, rfl, k1, k2, k3, k4, k5⟩
    exact ⟨A1, m1, c1, us, rfl, k1, (hu.2.2.2.out.below k5).cells, k2, k3, by rw [k4]; unfold vO; rw [if_pos rfl]⟩
  have HC : Hid (∀ (v : Int) (b : Nat) (E1 : Int), b ≤ 9218868437227405312 → cmpZ (vX b) S = v → (vO b).e = E1 → ∀ (A1 : Option Addr) (m1 c1 : Nat) (us : List Nat) (u : World), CellsB w A n c ds e0 u → m1 ≤ 4 → (Dig u A1 m1 c1 us ∧ D.Bare us ∧ D.val us = (vO b).V) →
      Calls Try.prog 38 #[.agg #[.bool false, .slice A1 m1 c1, .int .i64 E1], .agg #[.bool false, .slice A n c, .int .i64 e0]] u fun e w' => e = .returned (.int .i64 v) ∧ CellsB w A n c ds e0 w') := fun v b E1 hb hv hE A1 m1 c1 us u hu hm hP =>
    hold_cmp v b hb hn ba hV h1 h2 (by rw [hS]; exact hv) A1 m1 c1 us E1 hE u hu hm hP
  have HE : Hid ((vO 9218868437227405312).e = 1024) := by show (vO 9218868437227405312).e = 1024; unfold vO; rw [if_pos rfl]
  rw [hS] at hX
  have HX := Lib.hid hX
  obtain ⟨v0, hv0⟩ : ∃ v, cmpZ (vX 9218868437227405312) S = v := ⟨_, rfl⟩
  have Hv0 := Lib.hid hv0
  have hcase : (X = 9218868437227405312 ∧ v0 ≤ 0) ∨ (X < 9218868437227405312 ∧ v0 = 1 ∧ S < vX 9218868437227405312) := by
    rcases Nat.lt_or_ge X 9218868437227405312 with h | h
    · have k1 := hX.2.2 h
      have k2 := vX_le (X := X + 1) (Y := 9218868437227405312) h (Nat.le_refl _)
      exact Or.inr ⟨h, by rw [← hv0, cmpZ_gt (by omega)], by omega⟩
    · have k0 : X = 9218868437227405312 := by have := hX.1; omega
      have k1 := hX.2.1
      rw [k0] at k1
      refine Or.inl ⟨k0, ?_⟩
      rw [← hv0]
      rcases Nat.lt_or_eq_of_le k1 with k2 | k2
      · rw [cmpZ_lt k2]; decide
      · rw [cmpZ_eq k2]; decide
  clear hA ba hV a1 H0 hX hv0 hS h1 h2 hn
  go_enter Try.func43, Try.ntmps43
  obtain ⟨bb, hbb⟩ : ∃ bb, decide (v0 ≤ 0) = bb := ⟨_, rfl⟩
  go_wp2_with fail
  go_cut [9] from 6 (fun s9 wx => s9 = .bool bb ∧ Hid (HoldB w A n c ds e0 wx))
  case first =>
    go_region_held3 (fun w' => w'.cell? ⟨w.heap.size, 0, none⟩ = some (.bool false) ∧ w'.cell? ⟨w.heap.size, 1, none⟩ = some (.slice A n c) ∧ w'.cell? ⟨w.heap.size, 2, none⟩ = some (.int .i64 e0) ∧ Hid (HoldB w A n c ds e0 w'))
      (first | (with_reducible exact K0.out) | (with_reducible assumption))
      (first | (go_at_call 51; (with_reducible refine (HL.out _ (by first | (with_reducible exact K0.out) | (with_reducible assumption))).mono ?_); rintro e w1 ⟨A1, m1, c1, us, rfl, hm1, hY, hP⟩) | (go_at_call 38; (with_reducible refine (HC.out v0 9218868437227405312 1024 (Nat.le_refl _) Hv0.out HE.out A1 m1 c1 us _ (by with_reducible assumption) hm1 hP.out).mono ?_); rintro e w2 ⟨rfl, hZ⟩))
    have K2 := Lib.hid hZ.2.2.2.out
    clear hY hZ hP HL HE K0
    go_wp2_with fail
    go_meet
    exact ⟨by rw [← hbb], K2⟩
  case rest =>
  obtain ⟨w2, rfl⟩ : ∃ w2, w2 = wc := ⟨_, rfl⟩
  obtain ⟨rfl, K2⟩ := hcut
  clear HL Hv0 HE K0
  rcases hcase with ⟨hX0, hv0⟩ | ⟨hX0, hv1, hS0⟩
  · obtain rfl : bb = true := by rw [← hbb]; exact decide_eq_true hv0
    have Hfin := Lib.hid K2.out.2.2
    subst hX0
    clear K2 HC HX hv0 hbb
    go_wp2
    go_ret
    exact ⟨rfl, Hfin.out⟩
  · obtain rfl : bb = false := by rw [← hbb]; exact decide_eq_false (by omega)
    have hS1 := Lib.hid hS0
    clear hS0 hv1 hbb
    go_wp2
    go_loopw [3, 4] (fun l h wr => ∃ lo hi : Nat, l = .int .u64 (lo : Int) ∧ h = .int .u64 (hi : Int) ∧ lo < hi ∧ hi ≤ 9218868437227405312 ∧ Hid (vX lo ≤ S ∧ S < vX hi) ∧ Hid (HoldB w A n c ds e0 wr)) (fun l h _ => (intOf h).toNat - (intOf l).toNat)
    case atStart => exact ⟨0, 9218868437227405312, rfl, rfl, by decide, Nat.le_refl _, ⟨by show vX 0 ≤ S; rw [show vX 0 = 0 from by unfold vX; rw [show fm 0 = 0 from by decide, Nat.zero_mul]]; exact Nat.zero_le _, hS1.out⟩, K2⟩
    case round =>
      obtain ⟨lo, hi, rfl, rfl, hlh, hhi, HV, HB⟩ := hrel
      obtain ⟨dd, hdd⟩ : ∃ dd, hi - lo = dd := ⟨_, rfl⟩
      have e1 : (hi : Int) - (lo : Int) = (dd : Int) := by omega
      have hd0 : 1 ≤ dd := by omega
      by_cases hd1 : 1 < dd
      · obtain ⟨h2, hh2⟩ : ∃ h2, dd / 2 = h2 := ⟨_, rfl⟩
        have e2 : (dd : Int) / 2 = (h2 : Int) := by omega
        obtain ⟨mid, hmid⟩ : ∃ mid, lo + h2 = mid := ⟨_, rfl⟩
        have e3 : (lo : Int) + (h2 : Int) = (mid : Int) := by omega
        have b1 : decide ((1 : Int) < (dd : Int)) = true := decide_eq_true (by omega)
        have hm1 : lo < mid ∧ mid < hi := by omega
        obtain ⟨hm1, hm2⟩ := hm1
        have hmb : mid ≤ 9218868437227405312 := by omega
        obtain ⟨E1, hE1⟩ : ∃ E, (vO mid).e = E := ⟨_, rfl⟩
        have HE1 := Lib.hid hE1
        obtain ⟨v, hv⟩ : ∃ v, cmpZ (vX mid) S = v := ⟨_, rfl⟩
        have Hv := Lib.hid hv
        have KB := Lib.hid (HB.out.below (below_drew _)).cells
        have HVal : Hid (∀ u, CellsB w A n c ds e0 u → Calls Try.prog 44 #[.int .u64 (mid : Int)] u fun e w' => ∃ (A1 : Option Addr) (m1 c1 : Nat) (us : List Nat), e = .returned (.agg #[.bool false, .slice A1 m1 c1, .int .i64 E1]) ∧ m1 ≤ 4 ∧ CellsB w A n c ds e0 w' ∧ Hid (Dig w' A1 m1 c1 us ∧ D.Bare us ∧ D.val us = (vO mid).V)) := fun u hu => by
          have := hold_value mid hmb u hu
          rw [hE1] at this
          exact this
        have hvc : (v ≤ 0 ∧ vX mid ≤ S) ∨ (v = 1 ∧ S < vX mid) := by
          rw [← hv]
          rcases Nat.lt_trichotomy (vX mid) S with k | k | k
          · rw [cmpZ_lt k]; exact Or.inl ⟨by decide, by omega⟩
          · rw [cmpZ_eq k]; exact Or.inl ⟨by decide, by omega⟩
          · rw [cmpZ_gt k]; exact Or.inr ⟨rfl, k⟩
        have Hvc := Lib.hid hvc
        clear hv hE1 hdd hh2 hmid hvc
        go_wp2_with fail
        go_region_held3 (fun w' => w'.cell? ⟨w.heap.size, 0, none⟩ = some (.bool false) ∧ w'.cell? ⟨w.heap.size, 1, none⟩ = some (.slice A n c) ∧ w'.cell? ⟨w.heap.size, 2, none⟩ = some (.int .i64 e0) ∧ Hid (HoldB w A n c ds e0 w'))
          (first | (with_reducible exact KB.out) | (with_reducible assumption))
          (first | (go_at_call 44; (with_reducible refine (HVal.out _ (by first | (with_reducible exact KB.out) | (with_reducible assumption))).mono ?_); rintro e w5 ⟨A5, m5, c5, us5, rfl, hm5, hY, hP⟩) | (go_at_call 38; (with_reducible refine (HC.out v mid E1 hmb Hv.out HE1.out A5 m5 c5 us5 _ (by with_reducible assumption) hm5 hP.out).mono ?_); rintro e w6 ⟨rfl, hZ⟩))
        have K6 := Lib.hid hZ.2.2.2.out
        rcases Hvc.out with ⟨k1, k2⟩ | ⟨k1, k2⟩
        · have HV2 : Hid (vX mid ≤ S ∧ S < vX hi) := ⟨k2, HV.out.2⟩
          clear hY hZ hP KB HB HV HVal Hvc k2 Hv HE1
          go_wp2
          go_roundw
          case rel => exact ⟨mid, hi, rfl, rfl, hm2, hhi, HV2, K6⟩
          case measure => simp [intOf]; omega
        · have HV2 : Hid (vX lo ≤ S ∧ S < vX mid) := ⟨HV.out.1, k2⟩
          subst k1
          clear hY hZ hP KB HB HV HVal Hvc k2 Hv HE1
          go_wp2
          go_roundw
          case rel => exact ⟨lo, mid, rfl, rfl, hm1, hmb, HV2, K6⟩
          case measure => simp [intOf]; omega
      · obtain rfl : dd = 1 := by omega
        obtain rfl : hi = lo + 1 := by omega
        have hlow : IsLow S lo := ⟨by omega, HV.out.1, fun _ => HV.out.2⟩
        obtain rfl : X = lo := HX.out.uniq hlow
        have Hfin := Lib.hid HB.out.2.2
        clear hlow HV HB HX K2 HC hS1
        go_wp2
        go_ret
        exact ⟨rfl, Hfin.out⟩
end Go.Proofs.Ytfccpjjdemanbaa
/- The document's rounding: planimeterref07.Middle. -/
namespace Go.Proofs.Ytfccpjjdemanbaa
open Go.RowKit

theorem dig_len_b {ds : List Nat} {k : Nat} (hb : D.Bare ds) (h : blen (D.val ds) ≤ 16 * k) : ds.length ≤ k := dig_len hb (blen_le_iff.1 h)
/-- The sum of what some bits and the next ones are worth. -/
theorem next_sum {b : Nat} (hb : b < 9218868437227405312) : ∃ (V : Nat) (e : Int), V ≠ 0 ∧ blen V ≤ 2240 ∧ -1074 ≤ e ∧ e ≤ 1024 ∧ sz V e = vX b + vX (b + 1) ∧
    ∀ (A : Option Addr) (n c : Nat) (ds : List Nat) (B : Option Addr) (m d : Nat) (es : List Nat) (w : World), Dig w A n c ds → Dig w B m d es → D.Bare ds → D.Bare es → n ≤ 4 → m ≤ 4 → D.val ds = (vO b).V → D.val es = (vO (b + 1)).V →
      Calls Try.prog 11 #[.agg #[.bool false, .slice A n c, .int .i64 (vO b).e], .agg #[.bool false, .slice B m d, .int .i64 (vO (b + 1)).e]] w (NTold w ⟨false, V, e⟩ 100001) := by
  obtain ⟨_, a2, a3, a4, a5, a6⟩ := vO_facts (b := b) (by omega)
  obtain ⟨_, c2, c3, c4, c5, c6⟩ := vO_facts (b := b + 1) (by omega)
  generalize (vO b).V = V1 at *
  generalize (vO b).e = e1 at *
  generalize (vO (b + 1)).V = V2 at *
  generalize (vO (b + 1)).e = e2 at *
  have hV2 : V2 ≠ 0 := fun h => by have := c6.1 h; omega
  obtain ⟨K, hK⟩ : ∃ K : Nat, K = 2153 := ⟨_, rfl⟩
  have hs : ∀ q : Nat, q ≤ 2100 → ∀ V : Nat, V < 9007199254740992 → V * 2 ^ q < 2 ^ K := fun q hq V hV => by
    have h1 : V * 2 ^ q < 2 ^ 53 * 2 ^ q := Nat.mul_lt_mul_of_pos_right hV (Nat.two_pow_pos _)
    rw [← Nat.pow_add] at h1
    exact Nat.lt_of_lt_of_le h1 (Nat.pow_le_pow_right (by decide) (by omega))
  have hbig : ∀ x y : Nat, x < 2 ^ K → y < 2 ^ K → blen (x + y) ≤ 2240 := fun x y hx hy => by
    have h0 : x + y < 2 ^ (K + 1) := by rw [Nat.pow_succ]; omega
    have h2 := blen_le_iff.2 h0
    omega
  have szadd : ∀ (x y : Nat) (e : Int), sz (x + y) e = sz x e + sz y e := fun x y e => by unfold sz; rw [Nat.add_mul]
  by_cases h0 : V1 = 0
  · refine ⟨V2, e2, hV2, ?_, c3, c4, ?_, ?_⟩
    · have := hbig 0 V2 (Nat.two_pow_pos _) (by have := hs 0 (by decide) V2 c5; rwa [Nat.pow_zero, Nat.mul_one] at this)
      rwa [Nat.zero_add] at this
    · rw [c2, ← a2, h0, sz_zero, Nat.zero_add]
    · intro A n c ds B m d es w hA hB ba bb hn hm hv1 hv2
      obtain rfl : n = 0 := (dnil_iff hA ba).2 (hv1.trans h0)
      refine (radd_zero false A c e1 false B m d es e2 w hB bb).mono ?_
      rintro e w' ⟨A5, m5, c5, rs, rfl, k1, k2, k3, k4, k5⟩
      exact ⟨A5, m5, c5, rs, rfl, by omega, k2, k3, k4.trans hv2, k5⟩
  · by_cases hl : e2 < e1
    · obtain ⟨q, hq⟩ : ∃ q : Nat, e1 - e2 = (q : Int) := ⟨(e1 - e2).toNat, by omega⟩
      have hh : held e1 = held e2 + q := by rw [held_id (by omega) (by omega), held_id (by omega) (by omega)]; omega
      refine ⟨V1 * 2 ^ q + V2, e2, by omega, ?_, c3, c4, ?_, ?_⟩
      · exact hbig _ _ (hs q (by omega) V1 a5) (by have := hs 0 (by decide) V2 c5; rwa [Nat.pow_zero, Nat.mul_one] at this)
      · rw [szadd, ← sz_shift hh, a2, c2]
      · intro A n c ds B m d es w hA hB ba bb hn hm hv1 hv2
        exact radd_sum_L (V1 * 2 ^ q) V2 q A n c ds e1 B m d es e2 w hA hB ba bb (by omega) (by omega) (fun h => h0 (hv1.symm.trans ((dnil_iff hA ba).1 h))) (fun h => hV2 (hv2.symm.trans ((dnil_iff hB bb).1 h))) hq (by omega) hl (by rw [hv1]; rfl) hv2
    · obtain ⟨q, hq⟩ : ∃ q : Nat, e2 - e1 = (q : Int) := ⟨(e2 - e1).toNat, by omega⟩
      have hh : held e2 = held e1 + q := by rw [held_id (by omega) (by omega), held_id (by omega) (by omega)]; omega
      refine ⟨V1 + V2 * 2 ^ q, e1, by omega, ?_, a3, a4, ?_, ?_⟩
      · exact hbig _ _ (by have := hs 0 (by decide) V1 a5; rwa [Nat.pow_zero, Nat.mul_one] at this) (hs q (by omega) V2 c5)
      · rw [szadd, ← sz_shift hh, a2, c2]
      · intro A n c ds B m d es w hA hB ba bb hn hm hv1 hv2
        exact radd_sum_G V1 (V2 * 2 ^ q) q A n c ds e1 B m d es e2 w hA hB ba bb (by omega) (by omega) (fun h => h0 (hv1.symm.trans ((dnil_iff hA ba).1 h))) (fun h => hV2 (hv2.symm.trans ((dnil_iff hB bb).1 h))) hq (by omega) hv1 (by rw [hv2]; rfl)

theorem mid_spec {b : Nat} (hb : b < 9218868437227405312) : ∃ (V : Nat) (E : Int), V ≠ 0 ∧ -1073741824 ≤ E ∧ E ≤ 1073741824 ∧ 2 * sz V E = vX b + vX (b + 1) ∧
    ∀ w, Calls Try.prog 45 #[.int .u64 (b : Int)] w (NTold w ⟨false, V, E⟩ 140) := by
  obtain ⟨V, e, h1, h2, h3, h4, h5, h6⟩ := next_sum hb
  refine ⟨V, e - 1, h1, by omega, by omega, ?_, ?_⟩
  · have hh : held e = held (e - 1) + (1 : Nat) := by rw [held_id (by omega) (by omega), held_id (by omega) (by omega)]; omega
    rw [← h5, sz_shift hh]
    unfold sz
    rw [Nat.pow_one, Nat.mul_comm V 2, Nat.mul_assoc]
  · intro w
    have a1 := below1 w (.cells #[.bool false, .slice none 0 0, .int .i64 0] 29)
    have HS := Lib.hid a1
    have Hb := Lib.hid (Bd.new w 29 false none 0 0 0)
    have H1 := rvalue_l b (by omega) (w.alloc (.cells #[.bool false, .slice none 0 0, .int .i64 0] 29))
    have H2 := fun u => rvalue_l (b + 1) (by omega) u
    have g1 := (vO_facts (b := b) (by omega)).1
    have g2 := (vO_facts (b := b + 1) (by omega)).1
    obtain ⟨⟨d0, d1, d2⟩, hd⟩ : ∃ dd, vO b = dd := ⟨_, rfl⟩
    obtain ⟨⟨k0, k1, k2⟩, hk⟩ : ∃ dd, vO (b + 1) = dd := ⟨_, rfl⟩
    rw [hd] at H1 g1 h6
    rw [hk] at H2 g2 h6
    simp only at g1 g2 h6
    subst g1 g2
    have H1 := Lib.hid H1
    have H2 := Lib.hid H2
    have H6 := Lib.hid h6
    have Hlt := Lib.hid h2
    obtain ⟨b', hb'⟩ : ∃ b', b + 1 = b' := ⟨_, rfl⟩
    have e1 : (b : Int) + 1 = (b' : Int) := by omega
    rw [hb'] at H2
    have hbb : b' ≤ 9218868437227405312 := by omega
    clear a1 h1 h2 h5 h6 hd hk hb' hb
    go_enter Try.func45, Try.ntmps45
    go_wp2_with fail
    refine H1.out.mono ?_
    rintro e w1 ⟨A1, m1, c1, us, rfl, hm1, hl1, hd1, hv1, hB1⟩
    have Hb1 := Lib.hid (Hb.out.below hB1)
    have HS1 := Lib.hid (HS.out.trans (hB1.mono HS.out.size))
    have HL1 := Lib.hid hl1
    have HD1 := Lib.hid (And.intro hd1 hv1)
    clear hl1 hd1 hv1 hB1 Hb HS H1
    go_wp2_with fail
    refine (H2.out _).mono ?_
    rintro e w2 ⟨A2, m2, c2, vs, rfl, hm2, hl2, hd2, hv2, hB2⟩
    have Hb2 := Lib.hid (Hb1.out.below hB2)
    have HS2 := Lib.hid (HS1.out.trans (hB2.mono HS1.out.size))
    have H3 := Lib.hid (H6.out A1 m1 c1 us A2 m2 c2 vs w2 (HL1.out.below hB2) hl2 HD1.out.1 hd2 hm1 hm2 HD1.out.2 hv2)
    clear hl2 hd2 hv2 hB2 Hb1 HS1 H2 HL1 HD1 H6
    go_wp2_with fail
    refine H3.out.mono ?_
    rintro e w3 ⟨A3, m3, c3, rs, rfl, hm3, hl3, hd3, hv3, hB3⟩
    have hm4 : m3 ≤ 140 := by
      rw [← hl3.len]
      exact dig_len_b hd3 (by rw [hv3]; exact Hlt.out)
    have a4 := below1 w3 (.cells #[.bool false, .slice A3 m3 c3, .int .i64 (e - 1)] 29)
    have k4 := (Hb2.out.below hB3).below a4
    have HS4 := (HS2.out.trans (hB3.mono HS2.out.size)).trans (a4.mono (HS2.out.trans (hB3.mono HS2.out.size)).size)
    have Hfin : Hid (NTold w ⟨false, V, e - 1⟩ 140 (.returned (.agg #[.bool false, .slice A3 m3 c3, .int .i64 (e - 1)])) (World.put (w3.alloc (.cells #[.bool false, .slice A3 m3 c3, .int .i64 (e - 1)] 29)) w.heap.size false A3 m3 c3 (e - 1))) :=
      ⟨A3, m3, c3, rs, rfl, hm4, k4.dig (hl3.below a4) _ _ _ _ _, hd3, hv3, below_put HS4 (Nat.le_refl _) _ _ _ _ _⟩
    have kk := Hb2.out.below hB3
    have y0 := fun o => (kk.alloc o).c0
    have y1 := fun o => (kk.alloc o).c1
    have y2 := fun o => (kk.alloc o).c2
    have yf := fun o => (kk.alloc o).fz
    clear a4 k4 kk HS4 hl3 hd3 hv3 hB3 Hb2 HS2 H3 Hlt
    go_wp2
    exact bodyPost_ret (v := .agg #[.bool false, .slice A3 m3 c3, .int .i64 (e - 1)]) (by simp [results, Try.results45, go_sem, y0, y1, y2]) rfl Hfin.out
end Go.Proofs.Ytfccpjjdemanbaa
/- What the document's rounding comes to, case by case. -/
namespace Go.Proofs.Ytfccpjjdemanbaa
open Go.RowKit

theorem doc_cases {g more : Bool} {dir : Int} {S X0 X F : Nat} (hlow : IsLow S X0) (hd0 : 0 ≤ dir) (hd3 : dir ≤ 3) (hne : X0 = 9218868437227405312 ∨ (X0 < 9218868437227405312 ∧ (more = true ∨ vX X0 ≠ S))) (hR : rndS g S more dir X0 = (X, F)) :
    ∃ (b2 : Nat) (ov2 : Bool), b2 ≤ 9218868437227405312 ∧ sgn g b2 = X ∧ ((ov2 = true ∧ F = 5) ∨ (ov2 = false ∧ F = if S < vX 4503599627370496 then 3 else 1)) ∧
      ((X0 = 9218868437227405312 ∧ ov2 = true ∧ ((dir = 0 ∧ b2 = 9218868437227405312) ∨ (dir = 2 ∧ g = false ∧ b2 = 9218868437227405312) ∨ (dir = 3 ∧ g = true ∧ b2 = 9218868437227405312) ∨ (dir = 1 ∧ b2 = 9218868437227405311) ∨ (dir = 2 ∧ g = true ∧ b2 = 9218868437227405311) ∨ (dir = 3 ∧ g = false ∧ b2 = 9218868437227405311))) ∨
       (X0 < 9218868437227405312 ∧ ov2 = decide (b2 = 9218868437227405312) ∧
         ((dir = 0 ∧ vX X0 + vX (X0 + 1) < 2 * S ∧ b2 = X0 + 1) ∨ (dir = 0 ∧ 2 * S = vX X0 + vX (X0 + 1) ∧ more = true ∧ b2 = X0 + 1) ∨ (dir = 0 ∧ 2 * S = vX X0 + vX (X0 + 1) ∧ more = false ∧ X0 % 2 = 1 ∧ b2 = X0 + 1) ∨ (dir = 0 ∧ 2 * S = vX X0 + vX (X0 + 1) ∧ more = false ∧ X0 % 2 = 0 ∧ b2 = X0) ∨ (dir = 0 ∧ 2 * S < vX X0 + vX (X0 + 1) ∧ b2 = X0) ∨
          (dir = 2 ∧ g = false ∧ b2 = X0 + 1) ∨ (dir = 3 ∧ g = true ∧ b2 = X0 + 1) ∨ (dir = 1 ∧ b2 = X0) ∨ (dir = 2 ∧ g = true ∧ b2 = X0) ∨ (dir = 3 ∧ g = false ∧ b2 = X0)))) := by
  have h4 : dir = 0 ∨ dir = 1 ∨ dir = 2 ∨ dir = 3 := by omega
  by_cases hI : X0 = 9218868437227405312
  · unfold rndS at hR
    rw [if_pos hI] at hR
    obtain ⟨h1, h2⟩ := Prod.mk.inj hR
    refine ⟨overM g dir, true, overM_le g dir, h1, Or.inl ⟨rfl, h2.symm⟩, Or.inl ⟨hI, rfl, ?_⟩⟩
    rcases h4 with rfl | rfl | rfl | rfl <;> cases g <;> simp [overM, awy]
  · have hX : X0 < 9218868437227405312 := by have := hlow.1; omega
    have hm : more = true ∨ vX X0 ≠ S := by
      rcases hne with h | h
      · exact absurd h hI
      · exact h.2
    have l1 := hlow.2.1
    have l2 := hlow.2.2 hX
    have hlt := vX_lt hX
    unfold rndS at hR
    rw [if_neg hI] at hR
    obtain ⟨hh, hhh⟩ : ∃ hh, hS S X0 = hh := ⟨_, rfl⟩
    obtain ⟨bb, hbb⟩ : ∃ bb, (bS S X0 || more) = bb := ⟨_, rfl⟩
    rw [hhh, hbb] at hR
    have hinx : (hh || bb) = true := by
      rw [← hhh, ← hbb]
      rcases hm with h | h
      · rw [h]; simp
      · by_cases k : vX X0 + vX (X0 + 1) ≤ 2 * S
        · rw [show hS S X0 = true from decide_eq_true k]; rfl
        · rw [show bS S X0 = true from decide_eq_true ⟨fun h' => h h'.symm, by omega⟩]; simp
    unfold rfin at hR
    have hfl : fl hh bb (decide (S < vX 4503599627370496)) = if S < vX 4503599627370496 then 3 else 1 := by
      unfold fl; rw [hinx]
      by_cases k : S < vX 4503599627370496
      · rw [decide_eq_true k]; simp [k]
      · rw [decide_eq_false k]; simp [k]
    have hle := (upX_le (g := g) (dir := dir) (X := X0) (h := hh) (b := bb)).2
    refine ⟨upX g dir X0 hh bb, decide (upX g dir X0 hh bb = 9218868437227405312), by omega, ?_, ?_, Or.inr ⟨hX, rfl, ?_⟩⟩
    · by_cases hu : upX g dir X0 hh bb = 9218868437227405312
      · rw [if_pos hu] at hR
        rw [hu, ← upX_inf hI hu]
        exact (Prod.mk.inj hR).1
      · rw [if_neg hu] at hR
        exact (Prod.mk.inj hR).1
    · by_cases hu : upX g dir X0 hh bb = 9218868437227405312
      · rw [if_pos hu] at hR
        exact Or.inl ⟨decide_eq_true hu, (Prod.mk.inj hR).2.symm⟩
      · rw [if_neg hu, hfl] at hR
        exact Or.inr ⟨decide_eq_false hu, (Prod.mk.inj hR).2.symm⟩
    · unfold upX
      rcases h4 with rfl | rfl | rfl | rfl
      · have hawy : awy g 0 (decide (X0 % 2 = 1)) hh bb = (hh && (bb || decide (X0 % 2 = 1))) := rfl
        rw [hawy]
        rcases Nat.lt_trichotomy (2 * S) (vX X0 + vX (X0 + 1)) with k | k | k
        · have e1 : hh = false := by rw [← hhh]; exact decide_eq_false (by omega)
          rw [e1]
          right; right; right; right; left
          exact ⟨rfl, k, rfl⟩
        · have e1 : hh = true := by rw [← hhh]; exact decide_eq_true (by omega)
          have e2 : bS S X0 = false := decide_eq_false (by omega)
          rw [e2, Bool.false_or] at hbb
          subst hbb
          rw [e1, Bool.true_and]
          cases more with
          | true => right; left; exact ⟨rfl, k, rfl, rfl⟩
          | false =>
            rw [Bool.false_or]
            have hp : X0 % 2 = 1 ∨ X0 % 2 = 0 := by omega
            rcases hp with hp | hp
            · right; right; left; exact ⟨rfl, k, rfl, hp, by rw [decide_eq_true hp]; rfl⟩
            · right; right; right; left; exact ⟨rfl, k, rfl, hp, by rw [decide_eq_false (by omega)]; rfl⟩
        · have e1 : hh = true := by rw [← hhh]; exact decide_eq_true (by omega)
          have e2 : bS S X0 = true := decide_eq_true (by omega)
          have e3 : bb = true := by rw [← hbb, e2]; rfl
          rw [e1, e3]
          left; exact ⟨rfl, k, rfl⟩
      · right; right; right; right; right; right; right; left
        exact ⟨rfl, rfl⟩
      · have hawy : awy g 2 (decide (X0 % 2 = 1)) hh bb = (!g && (hh || bb)) := rfl
        rw [hawy, hinx]
        cases g with
        | false => right; right; right; right; right; left; exact ⟨rfl, rfl, rfl⟩
        | true => right; right; right; right; right; right; right; right; left; exact ⟨rfl, rfl, rfl⟩
      · have hawy : awy g 3 (decide (X0 % 2 = 1)) hh bb = (g && (hh || bb)) := rfl
        rw [hawy, hinx]
        cases g with
        | false => right; right; right; right; right; right; right; right; right; exact ⟨rfl, rfl, rfl⟩
        | true => right; right; right; right; right; right; left; exact ⟨rfl, rfl, rfl⟩
/-- What is exact. -/
theorem doc_exact {g : Bool} {dir : Int} {S X0 X F : Nat} (hX : X0 < 9218868437227405312) (hS' : vX X0 = S) (hR : rndS g S false dir X0 = (X, F)) : sgn g X0 = X ∧ F = 0 := by
  have hlt := vX_lt hX
  unfold rndS at hR
  rw [if_neg (by omega)] at hR
  have hh : hS S X0 = false := decide_eq_false (by omega)
  have hb : bS S X0 = false := decide_eq_false (by omega)
  rw [hh, hb] at hR
  unfold rfin upX at hR
  rw [Bool.false_or, awy_exact] at hR
  rw [show X0 + false.toNat = X0 from rfl, if_neg (by omega)] at hR
  obtain ⟨h1, h2⟩ := Prod.mk.inj hR
  exact ⟨h1, h2.symm⟩
end Go.Proofs.Ytfccpjjdemanbaa
/- The document's rounding: planimeterref07.To. -/
namespace Go.Proofs.Ytfccpjjdemanbaa
open Go.RowKit

theorem sz_norm {e : Int} (h : e = -1022) : sz 1 e = vX 4503599627370496 := by
  have h1 := sh_eq (e := e) (by omega) (by omega)
  have h2 := kb_eq
  rw [vX_norm, sz, Nat.one_mul]
  congr 1
  omega
theorem cmp_half {S T M : Nat} (h : 2 * T = M) : (M < 2 * S → cmpZ S T = 1) ∧ (2 * S = M → cmpZ S T = 0) ∧ (2 * S < M → cmpZ S T = -1) :=
  ⟨fun k => cmpZ_gt (by omega), fun k => cmpZ_eq (by omega), fun k => cmpZ_lt (by omega)⟩

set_option maxRecDepth 20000 in
set_option maxHeartbeats 4000000 in
theorem rdoc_l (X F X0 : Nat) (g more : Bool) (A : Option Addr) (n c : Nat) (ds : List Nat) (e0 dir : Int) (w : World) (hA : Dig w A n c ds) (ba : D.Bare ds) (hn : n ≤ 240) (hV : D.val ds ≠ 0) (h1 : -1073741824 ≤ e0) (h2 : e0 ≤ 1073741824) (hd0 : 0 ≤ dir) (hd3 : dir ≤ 3)
    (hX0 : IsLow (sz (D.val ds) e0) X0) (hR : rndS g (sz (D.val ds) e0) more dir X0 = (X, F)) :
    Calls Try.prog 36 #[.agg #[.bool g, .slice A n c, .int .i64 e0], .bool more, .int .i64 dir] w fun e w' => e = .returned (.tuple #[.int .u64 (X : Int), .int .i64 (F : Int)]) ∧ Below w.heap.size w w' := by
  have a1 := below1 w (.cells #[.bool false, .slice A n c, .int .i64 e0] 29)
  have H0 : HoldB w A n c ds e0 _ := ⟨Bd.new w 29 false A n c e0, hA.below a1, a1⟩
  have K0 := Lib.hid H0
  have HBel := Lib.hid (rbelow_l X0 A n c ds e0 _ H0.2.1 ba hn hV h1 h2 hX0)
  have hn0 : n ≠ 0 := fun h => hV ((dnil_iff hA ba).1 h)
  have c0 : ((n : Int) == 0) = false := beq_no (by omega)
  obtain ⟨sgv, hsgv⟩ : ∃ sgv : Nat, (if g then 9223372036854775808 else 0) = sgv := ⟨_, rfl⟩
  have Hsgv := Lib.hid hsgv
  clear hA a1 H0 hn0 hsgv
  go_enter Try.func36, Try.ntmps36
  go_upto_if 22 with fail
  go_cut [9] from 15 (fun s9 wx => s9 = .int .u64 (sgv : Int) ∧ wx = w.alloc (.cells #[.bool false, .slice A n c, .int .i64 e0] 29))
  case first =>
    clear HBel K0 hX0 hR
    cases g with
    | false =>
      obtain rfl : sgv = 0 := Hsgv.out.symm
      go_wp2_with fail
      go_meet
      exact ⟨rfl, rfl⟩
    | true =>
      obtain rfl : sgv = 9223372036854775808 := Hsgv.out.symm
      go_wp2_with fail
      go_meet
      exact ⟨rfl, rfl⟩
  case rest =>
    obtain ⟨rfl, rfl⟩ := hcut
    go_wp2_with fail
    refine HBel.out.mono ?_
    rintro e w1 ⟨rfl, hb1⟩
    have K1 := Lib.hid (K0.out.below hb1)
    clear hb1 HBel K0
    obtain ⟨ov, hov⟩ : ∃ ov, ((X0 : Int) == 9218868437227405312) = ov := ⟨_, rfl⟩
    obtain ⟨S, hS⟩ : ∃ S, sz (D.val ds) e0 = S := ⟨_, rfl⟩
    rw [hS] at hX0 hR
    have HC : Hid (∀ (v : Int) (b : Nat) (E1 : Int), b ≤ 9218868437227405312 → cmpZ (vX b) S = v → (vO b).e = E1 → ∀ (A1 : Option Addr) (m1 c1 : Nat) (us : List Nat) (u : World), CellsB w A n c ds e0 u → m1 ≤ 4 → (Dig u A1 m1 c1 us ∧ D.Bare us ∧ D.val us = (vO b).V) →
        Calls Try.prog 38 #[.agg #[.bool false, .slice A1 m1 c1, .int .i64 E1], .agg #[.bool false, .slice A n c, .int .i64 e0]] u fun e w' => e = .returned (.int .i64 v) ∧ CellsB w A n c ds e0 w') := fun v b E1 hb hv hE A1 m1 c1 us u hu hm hP =>
      hold_cmp v b hb hn ba hV h1 h2 (by rw [hS]; exact hv) A1 m1 c1 us E1 hE u hu hm hP
    obtain ⟨ex, hex⟩ : ∃ ex, (!ov && !more && decide (vX X0 = S)) = ex := ⟨_, rfl⟩
    have Hlow := Lib.hid hX0
    have HR := Lib.hid hR
    have hxb := hX0.1
    clear hX0 hR
    go_upto_region 10 with fail
    go_cut [12] from 15 (fun s12 wx => s12 = .bool ex ∧ Hid (HoldB w A n c ds e0 wx))
    case first =>
      clear HR Hlow
      cases ov with
      | true =>
        obtain rfl : ex = false := hex.symm
        clear hex HC
        go_quiet (fail)
        go_wp2_with fail
        go_meet
        exact ⟨rfl, K1.out.below (below_drewN (Below.refl _ _) _)⟩
      | false =>
        cases more with
        | true =>
          obtain rfl : ex = false := hex.symm
          clear hex HC
          go_quiet (fail)
          go_wp2_with fail
          go_meet
          exact ⟨rfl, K1.out.below (below_drewN (Below.refl _ _) _)⟩
        | false =>
          obtain ⟨v, hv⟩ : ∃ v, cmpZ (vX X0) S = v := ⟨_, rfl⟩
          have hve : (v == 0) = ex := by
            rw [← hex, ← hv]
            rcases Nat.lt_trichotomy (vX X0) S with k | k | k
            · rw [cmpZ_lt k, decide_eq_false (by omega)]; rfl
            · rw [cmpZ_eq k, decide_eq_true k]; rfl
            · rw [cmpZ_gt k, decide_eq_false (by omega)]; rfl
          have Hv := Lib.hid hv
          obtain ⟨E1, hE1⟩ : ∃ E, (vO X0).e = E := ⟨_, rfl⟩
          have HE1 := Lib.hid hE1
          have KB := Lib.hid (K1.out.below (below_drew _)).cells
          have HVal : Hid (∀ u, CellsB w A n c ds e0 u → Calls Try.prog 44 #[.int .u64 (X0 : Int)] u fun e w' => ∃ (A1 : Option Addr) (m1 c1 : Nat) (us : List Nat), e = .returned (.agg #[.bool false, .slice A1 m1 c1, .int .i64 E1]) ∧ m1 ≤ 4 ∧ CellsB w A n c ds e0 w' ∧ Hid (Dig w' A1 m1 c1 us ∧ D.Bare us ∧ D.val us = (vO X0).V)) := fun u hu => by
            have := hold_value X0 hxb u hu
            rw [hE1] at this
            exact this
          clear hex hv hE1
          go_region_held3 (fun w' => w'.cell? ⟨w.heap.size, 0, none⟩ = some (.bool false) ∧ w'.cell? ⟨w.heap.size, 1, none⟩ = some (.slice A n c) ∧ w'.cell? ⟨w.heap.size, 2, none⟩ = some (.int .i64 e0) ∧ Hid (HoldB w A n c ds e0 w'))
            (first | (with_reducible exact KB.out) | (with_reducible assumption))
            (first | (go_at_call 44; (with_reducible refine (HVal.out _ (by first | (with_reducible exact KB.out) | (with_reducible assumption))).mono ?_); rintro e w5 ⟨A5, m5, c5, us5, rfl, hm5, hY, hP⟩) | (go_at_call 38; (with_reducible refine (HC.out v X0 E1 hxb Hv.out HE1.out A5 m5 c5 us5 _ (by with_reducible assumption) hm5 hP.out).mono ?_); rintro e w6 ⟨rfl, hZ⟩))
          have K6 := Lib.hid hZ.2.2.2.out
          clear hY hZ hP KB HVal Hv HE1 HC
          go_wp2_with fail
          go_meet
          exact ⟨rfl, K6⟩
    case rest =>
      obtain ⟨w2, rfl⟩ : ∃ w2, w2 = wc := ⟨_, rfl⟩
      obtain ⟨rfl, K2⟩ := hcut
      clear K1
      cases ex with
      | true =>
        have hovf : ov = false := by cases ov; rfl; simp at hex
        have hmf : more = false := by subst hovf; cases more; rfl; simp at hex
        subst hovf hmf
        have hSX : vX X0 = S := by simpa using hex
        have hXlt : X0 < 9218868437227405312 := by
          have := (beq_eq_false_iff_ne.1 hov)
          omega
        obtain ⟨k1, rfl⟩ := doc_exact hXlt hSX HR.out
        have e9 : (X0 : Int) + (sgv : Int) = (X : Int) := by rw [← k1, ← Hsgv.out]; unfold sgn; omega
        have hXb : X < 18446744073709551616 := by rw [← k1]; unfold sgn; split <;> omega
        have Hfin := Lib.hid K2.out.2.2
        clear HR Hlow HC hSX k1 K2 hex Hsgv
        go_wp2
        go_ret2
        exact ⟨rfl, Hfin.out⟩
      | false =>
        have hne : X0 = 9218868437227405312 ∨ (X0 < 9218868437227405312 ∧ (more = true ∨ vX X0 ≠ S)) := by
          by_cases hI : X0 = 9218868437227405312
          · exact Or.inl hI
          · refine Or.inr ⟨by omega, ?_⟩
            have ho : ov = false := by rw [← hov]; exact beq_no (by omega)
            subst ho
            cases more with
            | true => exact Or.inl rfl
            | false => exact Or.inr (by simpa using hex)
        obtain ⟨b2, ov2, hb2, hX, hF, hcase⟩ := doc_cases Hlow.out hd0 hd3 hne HR.out
        clear hex hne HR
        have e9 : (b2 : Int) + (sgv : Int) = (X : Int) := by rw [← hX, ← Hsgv.out]; unfold sgn; omega
        have hXb : X < 18446744073709551616 := by rw [← hX]; unfold sgn; split <;> omega
        have HF := Lib.hid hF
        clear hX Hsgv HC hF
        go_upto_block 0 with fail
        go_cut [11, 13] from 15 (fun s11 s13 wx => s11 = .bool ov2 ∧ s13 = .int .u64 (b2 : Int) ∧ Hid (HoldB w A n c ds e0 wx))
        case first =>
          clear HF e9 hXb
          rcases hcase with ⟨rfl, rfl, hc⟩ | ⟨hXlt, hov2, hc⟩
          · obtain rfl : ov = true := hov.symm
            clear Hlow hov
            rcases hc with ⟨rfl, rfl⟩ | ⟨rfl, rfl, rfl⟩ | ⟨rfl, rfl, rfl⟩ | ⟨rfl, rfl⟩ | ⟨rfl, rfl, rfl⟩ | ⟨rfl, rfl, rfl⟩
            all_goals (
              go_wp2_with fail
              go_meet
              exact ⟨rfl, rfl, K2⟩)
          · obtain rfl : ov = false := by rw [← hov]; exact beq_no (by omega)
            have ho2 : ((b2 : Int) == 9218868437227405312) = ov2 := by
              rw [hov2]
              by_cases k : b2 = 9218868437227405312
              · rw [decide_eq_true k]; exact beq_yes (by omega)
              · rw [decide_eq_false k]; exact beq_no (by omega)
            have hb264 : b2 < 18446744073709551616 := by omega
            have hd0' : (dir == 0) = decide (dir = 0) := rfl
            clear hov2 Hlow hb2 hd0'
            rcases hc with hc | hc | hc | hc | hc | hc
            · obtain ⟨rfl, k, hb1⟩ := hc
              obtain ⟨Vm, Em, hm1, hm2, hm3, hm4, hm5⟩ := mid_spec hXlt
              obtain ⟨q1, q2, q3⟩ := cmp_half (S := S) hm4
              have KB := Lib.hid (K2.out.below (below_drew _)).cells
              have HMid : Hid (∀ u, CellsB w A n c ds e0 u → Calls Try.prog 45 #[.int .u64 (X0 : Int)] u fun e w' => ∃ (A1 : Option Addr) (m1 c1 : Nat) (us : List Nat), e = .returned (.agg #[.bool false, .slice A1 m1 c1, .int .i64 Em]) ∧ m1 ≤ 140 ∧ CellsB w A n c ds e0 w' ∧ Hid (Dig w' A1 m1 c1 us ∧ D.Bare us ∧ D.val us = Vm)) := fun u hu => by
                refine (hm5 u).mono ?_
                rintro e w' ⟨A1, m1, c1, us, rfl, k1, k2, k3, k4, k5⟩
                exact ⟨A1, m1, c1, us, rfl, k1, (hu.2.2.2.out.below k5).cells, k2, k3, k4⟩
              have HCm : ∀ v, cmpZ S (sz Vm Em) = v → ∀ (A1 : Option Addr) (m1 c1 : Nat) (us : List Nat) (u : World), CellsB w A n c ds e0 u → m1 ≤ 140 → (Dig u A1 m1 c1 us ∧ D.Bare us ∧ D.val us = Vm) →
                  Calls Try.prog 38 #[.agg #[.bool false, .slice A n c, .int .i64 e0], .agg #[.bool false, .slice A1 m1 c1, .int .i64 Em]] u fun e w' => e = .returned (.int .i64 v) ∧ CellsB w A n c ds e0 w' := fun v hv A1 m1 c1 us u hu hm hP => by
                have h := hu.2.2.2.out
                refine (rncmp_l v A n c ds e0 A1 m1 c1 us Em u h.2.1 hP.1 ba hP.2.1 hn (by omega) (by rw [hP.2.2]; exact hm1) h1 h2 hm2 hm3 (by rw [hP.2.2, hS]; exact hv)).mono ?_
                rintro e w' ⟨rfl, hb'⟩
                exact ⟨rfl, (h.below hb').cells⟩
              clear hm1 hm2 hm3 hm4 hm5
              have e1 : (X0 : Int) + 1 = (b2 : Int) := by omega
              clear hb1
              have hcm := q1 k
              have HCq := Lib.hid (HCm 1 hcm)
              clear hcm HCm
              go_wp2_with fail
              go_region_held3 (fun w' => w'.cell? ⟨w.heap.size, 0, none⟩ = some (.bool false) ∧ w'.cell? ⟨w.heap.size, 1, none⟩ = some (.slice A n c) ∧ w'.cell? ⟨w.heap.size, 2, none⟩ = some (.int .i64 e0) ∧ Hid (HoldB w A n c ds e0 w'))
                (first | (with_reducible exact KB.out) | (with_reducible assumption))
                (first | (go_at_call 45; (with_reducible refine (HMid.out _ (by first | (with_reducible exact KB.out) | (with_reducible assumption))).mono ?_); rintro e w5 ⟨A5, m5, c5, us5, rfl, hm5, hY, hP⟩) | (go_at_call 38; (with_reducible refine (HCq.out A5 m5 c5 us5 _ (by with_reducible assumption) hm5 hP.out).mono ?_); rintro e w6 ⟨rfl, hZ⟩))
              have K6 := Lib.hid hZ.2.2.2.out
              clear hY hZ hP KB HMid HCq K2
              go_wp2_with fail
              go_meet
              exact ⟨rfl, rfl, K6⟩
            · obtain ⟨rfl, k, rfl, hb1⟩ := hc
              obtain ⟨Vm, Em, hm1, hm2, hm3, hm4, hm5⟩ := mid_spec hXlt
              obtain ⟨q1, q2, q3⟩ := cmp_half (S := S) hm4
              have KB := Lib.hid (K2.out.below (below_drew _)).cells
              have HMid : Hid (∀ u, CellsB w A n c ds e0 u → Calls Try.prog 45 #[.int .u64 (X0 : Int)] u fun e w' => ∃ (A1 : Option Addr) (m1 c1 : Nat) (us : List Nat), e = .returned (.agg #[.bool false, .slice A1 m1 c1, .int .i64 Em]) ∧ m1 ≤ 140 ∧ CellsB w A n c ds e0 w' ∧ Hid (Dig w' A1 m1 c1 us ∧ D.Bare us ∧ D.val us = Vm)) := fun u hu => by
                refine (hm5 u).mono ?_
                rintro e w' ⟨A1, m1, c1, us, rfl, k1, k2, k3, k4, k5⟩
                exact ⟨A1, m1, c1, us, rfl, k1, (hu.2.2.2.out.below k5).cells, k2, k3, k4⟩
              have HCm : ∀ v, cmpZ S (sz Vm Em) = v → ∀ (A1 : Option Addr) (m1 c1 : Nat) (us : List Nat) (u : World), CellsB w A n c ds e0 u → m1 ≤ 140 → (Dig u A1 m1 c1 us ∧ D.Bare us ∧ D.val us = Vm) →
                  Calls Try.prog 38 #[.agg #[.bool false, .slice A n c, .int .i64 e0], .agg #[.bool false, .slice A1 m1 c1, .int .i64 Em]] u fun e w' => e = .returned (.int .i64 v) ∧ CellsB w A n c ds e0 w' := fun v hv A1 m1 c1 us u hu hm hP => by
                have h := hu.2.2.2.out
                refine (rncmp_l v A n c ds e0 A1 m1 c1 us Em u h.2.1 hP.1 ba hP.2.1 hn (by omega) (by rw [hP.2.2]; exact hm1) h1 h2 hm2 hm3 (by rw [hP.2.2, hS]; exact hv)).mono ?_
                rintro e w' ⟨rfl, hb'⟩
                exact ⟨rfl, (h.below hb').cells⟩
              clear hm1 hm2 hm3 hm4 hm5
              have e1 : (X0 : Int) + 1 = (b2 : Int) := by omega
              clear hb1
              have hcm := q2 k
              have HCq := Lib.hid (HCm 0 hcm)
              clear hcm HCm
              go_wp2_with fail
              go_region_held3 (fun w' => w'.cell? ⟨w.heap.size, 0, none⟩ = some (.bool false) ∧ w'.cell? ⟨w.heap.size, 1, none⟩ = some (.slice A n c) ∧ w'.cell? ⟨w.heap.size, 2, none⟩ = some (.int .i64 e0) ∧ Hid (HoldB w A n c ds e0 w'))
                (first | (with_reducible exact KB.out) | (with_reducible assumption))
                (first | (go_at_call 45; (with_reducible refine (HMid.out _ (by first | (with_reducible exact KB.out) | (with_reducible assumption))).mono ?_); rintro e w5 ⟨A5, m5, c5, us5, rfl, hm5, hY, hP⟩) | (go_at_call 38; (with_reducible refine (HCq.out A5 m5 c5 us5 _ (by with_reducible assumption) hm5 hP.out).mono ?_); rintro e w6 ⟨rfl, hZ⟩))
              have K6 := Lib.hid hZ.2.2.2.out
              clear hY hZ hP KB HMid HCq K2
              go_wp2_with fail
              go_meet
              exact ⟨rfl, rfl, K6⟩
            · obtain ⟨rfl, k, rfl, hp, hb1⟩ := hc
              obtain ⟨Vm, Em, hm1, hm2, hm3, hm4, hm5⟩ := mid_spec hXlt
              obtain ⟨q1, q2, q3⟩ := cmp_half (S := S) hm4
              have KB := Lib.hid (K2.out.below (below_drew _)).cells
              have HMid : Hid (∀ u, CellsB w A n c ds e0 u → Calls Try.prog 45 #[.int .u64 (X0 : Int)] u fun e w' => ∃ (A1 : Option Addr) (m1 c1 : Nat) (us : List Nat), e = .returned (.agg #[.bool false, .slice A1 m1 c1, .int .i64 Em]) ∧ m1 ≤ 140 ∧ CellsB w A n c ds e0 w' ∧ Hid (Dig w' A1 m1 c1 us ∧ D.Bare us ∧ D.val us = Vm)) := fun u hu => by
                refine (hm5 u).mono ?_
                rintro e w' ⟨A1, m1, c1, us, rfl, k1, k2, k3, k4, k5⟩
                exact ⟨A1, m1, c1, us, rfl, k1, (hu.2.2.2.out.below k5).cells, k2, k3, k4⟩
              have HCm : ∀ v, cmpZ S (sz Vm Em) = v → ∀ (A1 : Option Addr) (m1 c1 : Nat) (us : List Nat) (u : World), CellsB w A n c ds e0 u → m1 ≤ 140 → (Dig u A1 m1 c1 us ∧ D.Bare us ∧ D.val us = Vm) →
                  Calls Try.prog 38 #[.agg #[.bool false, .slice A n c, .int .i64 e0], .agg #[.bool false, .slice A1 m1 c1, .int .i64 Em]] u fun e w' => e = .returned (.int .i64 v) ∧ CellsB w A n c ds e0 w' := fun v hv A1 m1 c1 us u hu hm hP => by
                have h := hu.2.2.2.out
                refine (rncmp_l v A n c ds e0 A1 m1 c1 us Em u h.2.1 hP.1 ba hP.2.1 hn (by omega) (by rw [hP.2.2]; exact hm1) h1 h2 hm2 hm3 (by rw [hP.2.2, hS]; exact hv)).mono ?_
                rintro e w' ⟨rfl, hb'⟩
                exact ⟨rfl, (h.below hb').cells⟩
              clear hm1 hm2 hm3 hm4 hm5
              have e1 : (X0 : Int) + 1 = (b2 : Int) := by omega
              clear hb1
              have e2 : (X0 : Int) % 2 = 1 := by omega
              have hcm := q2 k
              have HCq := Lib.hid (HCm 0 hcm)
              clear hcm HCm
              go_wp2_with fail
              go_region_held3 (fun w' => w'.cell? ⟨w.heap.size, 0, none⟩ = some (.bool false) ∧ w'.cell? ⟨w.heap.size, 1, none⟩ = some (.slice A n c) ∧ w'.cell? ⟨w.heap.size, 2, none⟩ = some (.int .i64 e0) ∧ Hid (HoldB w A n c ds e0 w'))
                (first | (with_reducible exact KB.out) | (with_reducible assumption))
                (first | (go_at_call 45; (with_reducible refine (HMid.out _ (by first | (with_reducible exact KB.out) | (with_reducible assumption))).mono ?_); rintro e w5 ⟨A5, m5, c5, us5, rfl, hm5, hY, hP⟩) | (go_at_call 38; (with_reducible refine (HCq.out A5 m5 c5 us5 _ (by with_reducible assumption) hm5 hP.out).mono ?_); rintro e w6 ⟨rfl, hZ⟩))
              have K6 := Lib.hid hZ.2.2.2.out
              clear hY hZ hP KB HMid HCq K2
              go_wp2_with fail
              go_meet
              exact ⟨rfl, rfl, K6⟩
            · obtain ⟨rfl, k, rfl, hp, rfl⟩ := hc
              obtain ⟨Vm, Em, hm1, hm2, hm3, hm4, hm5⟩ := mid_spec hXlt
              obtain ⟨q1, q2, q3⟩ := cmp_half (S := S) hm4
              have KB := Lib.hid (K2.out.below (below_drew _)).cells
              have HMid : Hid (∀ u, CellsB w A n c ds e0 u → Calls Try.prog 45 #[.int .u64 (b2 : Int)] u fun e w' => ∃ (A1 : Option Addr) (m1 c1 : Nat) (us : List Nat), e = .returned (.agg #[.bool false, .slice A1 m1 c1, .int .i64 Em]) ∧ m1 ≤ 140 ∧ CellsB w A n c ds e0 w' ∧ Hid (Dig w' A1 m1 c1 us ∧ D.Bare us ∧ D.val us = Vm)) := fun u hu => by
                refine (hm5 u).mono ?_
                rintro e w' ⟨A1, m1, c1, us, rfl, k1, k2, k3, k4, k5⟩
                exact ⟨A1, m1, c1, us, rfl, k1, (hu.2.2.2.out.below k5).cells, k2, k3, k4⟩
              have HCm : ∀ v, cmpZ S (sz Vm Em) = v → ∀ (A1 : Option Addr) (m1 c1 : Nat) (us : List Nat) (u : World), CellsB w A n c ds e0 u → m1 ≤ 140 → (Dig u A1 m1 c1 us ∧ D.Bare us ∧ D.val us = Vm) →
                  Calls Try.prog 38 #[.agg #[.bool false, .slice A n c, .int .i64 e0], .agg #[.bool false, .slice A1 m1 c1, .int .i64 Em]] u fun e w' => e = .returned (.int .i64 v) ∧ CellsB w A n c ds e0 w' := fun v hv A1 m1 c1 us u hu hm hP => by
                have h := hu.2.2.2.out
                refine (rncmp_l v A n c ds e0 A1 m1 c1 us Em u h.2.1 hP.1 ba hP.2.1 hn (by omega) (by rw [hP.2.2]; exact hm1) h1 h2 hm2 hm3 (by rw [hP.2.2, hS]; exact hv)).mono ?_
                rintro e w' ⟨rfl, hb'⟩
                exact ⟨rfl, (h.below hb').cells⟩
              clear hm1 hm2 hm3 hm4 hm5
              have e2 : (b2 : Int) % 2 = 0 := by omega
              have hcm := q2 k
              have HCq := Lib.hid (HCm 0 hcm)
              clear hcm HCm
              go_wp2_with fail
              go_region_held3 (fun w' => w'.cell? ⟨w.heap.size, 0, none⟩ = some (.bool false) ∧ w'.cell? ⟨w.heap.size, 1, none⟩ = some (.slice A n c) ∧ w'.cell? ⟨w.heap.size, 2, none⟩ = some (.int .i64 e0) ∧ Hid (HoldB w A n c ds e0 w'))
                (first | (with_reducible exact KB.out) | (with_reducible assumption))
                (first | (go_at_call 45; (with_reducible refine (HMid.out _ (by first | (with_reducible exact KB.out) | (with_reducible assumption))).mono ?_); rintro e w5 ⟨A5, m5, c5, us5, rfl, hm5, hY, hP⟩) | (go_at_call 38; (with_reducible refine (HCq.out A5 m5 c5 us5 _ (by with_reducible assumption) hm5 hP.out).mono ?_); rintro e w6 ⟨rfl, hZ⟩))
              have K6 := Lib.hid hZ.2.2.2.out
              clear hY hZ hP KB HMid HCq K2
              go_wp2_with fail
              go_meet
              exact ⟨rfl, rfl, K6⟩
            · obtain ⟨rfl, k, rfl⟩ := hc
              obtain ⟨Vm, Em, hm1, hm2, hm3, hm4, hm5⟩ := mid_spec hXlt
              obtain ⟨q1, q2, q3⟩ := cmp_half (S := S) hm4
              have KB := Lib.hid (K2.out.below (below_drew _)).cells
              have HMid : Hid (∀ u, CellsB w A n c ds e0 u → Calls Try.prog 45 #[.int .u64 (b2 : Int)] u fun e w' => ∃ (A1 : Option Addr) (m1 c1 : Nat) (us : List Nat), e = .returned (.agg #[.bool false, .slice A1 m1 c1, .int .i64 Em]) ∧ m1 ≤ 140 ∧ CellsB w A n c ds e0 w' ∧ Hid (Dig w' A1 m1 c1 us ∧ D.Bare us ∧ D.val us = Vm)) := fun u hu => by
                refine (hm5 u).mono ?_
                rintro e w' ⟨A1, m1, c1, us, rfl, k1, k2, k3, k4, k5⟩
                exact ⟨A1, m1, c1, us, rfl, k1, (hu.2.2.2.out.below k5).cells, k2, k3, k4⟩
              have HCm : ∀ v, cmpZ S (sz Vm Em) = v → ∀ (A1 : Option Addr) (m1 c1 : Nat) (us : List Nat) (u : World), CellsB w A n c ds e0 u → m1 ≤ 140 → (Dig u A1 m1 c1 us ∧ D.Bare us ∧ D.val us = Vm) →
                  Calls Try.prog 38 #[.agg #[.bool false, .slice A n c, .int .i64 e0], .agg #[.bool false, .slice A1 m1 c1, .int .i64 Em]] u fun e w' => e = .returned (.int .i64 v) ∧ CellsB w A n c ds e0 w' := fun v hv A1 m1 c1 us u hu hm hP => by
                have h := hu.2.2.2.out
                refine (rncmp_l v A n c ds e0 A1 m1 c1 us Em u h.2.1 hP.1 ba hP.2.1 hn (by omega) (by rw [hP.2.2]; exact hm1) h1 h2 hm2 hm3 (by rw [hP.2.2, hS]; exact hv)).mono ?_
                rintro e w' ⟨rfl, hb'⟩
                exact ⟨rfl, (h.below hb').cells⟩
              clear hm1 hm2 hm3 hm4 hm5
              have hcm := q3 k
              have HCq := Lib.hid (HCm (-1) hcm)
              clear hcm HCm
              go_wp2_with fail
              go_region_held3 (fun w' => w'.cell? ⟨w.heap.size, 0, none⟩ = some (.bool false) ∧ w'.cell? ⟨w.heap.size, 1, none⟩ = some (.slice A n c) ∧ w'.cell? ⟨w.heap.size, 2, none⟩ = some (.int .i64 e0) ∧ Hid (HoldB w A n c ds e0 w'))
                (first | (with_reducible exact KB.out) | (with_reducible assumption))
                (first | (go_at_call 45; (with_reducible refine (HMid.out _ (by first | (with_reducible exact KB.out) | (with_reducible assumption))).mono ?_); rintro e w5 ⟨A5, m5, c5, us5, rfl, hm5, hY, hP⟩) | (go_at_call 38; (with_reducible refine (HCq.out A5 m5 c5 us5 _ (by with_reducible assumption) hm5 hP.out).mono ?_); rintro e w6 ⟨rfl, hZ⟩))
              have K6 := Lib.hid hZ.2.2.2.out
              clear hY hZ hP KB HMid HCq K2
              go_wp2_with fail
              go_meet
              exact ⟨rfl, rfl, K6⟩
            · rcases hc with ⟨rfl, rfl, hb1⟩ | ⟨rfl, rfl, hb1⟩ | ⟨rfl, hb1⟩ | ⟨rfl, rfl, hb1⟩ | ⟨rfl, rfl, hb1⟩
              · have e1 : (X0 : Int) + 1 = (b2 : Int) := by omega
                clear hb1
                go_wp2_with fail
                go_meet
                exact ⟨rfl, rfl, K2⟩
              · have e1 : (X0 : Int) + 1 = (b2 : Int) := by omega
                clear hb1
                go_wp2_with fail
                go_meet
                exact ⟨rfl, rfl, K2⟩
              all_goals (
                subst hb1
                obtain rfl : ov2 = false := by rw [← ho2]; exact beq_no (by omega)
                go_wp2_with fail
                go_meet
                exact ⟨rfl, rfl, K2⟩)
        case rest =>
          obtain ⟨w7, rfl⟩ : ∃ w7, w7 = wc := ⟨_, rfl⟩
          obtain ⟨rfl, rfl, K7⟩ := hcut
          clear K2 hcase hov
          rcases HF.out with ⟨rfl, rfl⟩ | ⟨rfl, hF⟩
          · have Hfin := Lib.hid K7.out.2.2
            clear K7 HF Hlow
            go_wp2
            go_ret2
            exact ⟨rfl, Hfin.out⟩
          · obtain ⟨v, hv⟩ : ∃ v, cmpZ S (vX 4503599627370496) = v := ⟨_, rfl⟩
            have hvc : (v = -1 ∧ F = 3) ∨ (0 ≤ v ∧ F = 1) := by
              rw [← hv]
              by_cases k : S < vX 4503599627370496
              · rw [if_pos k] at hF; exact Or.inl ⟨cmpZ_lt k, hF⟩
              · rw [if_neg k] at hF
                refine Or.inr ⟨?_, hF⟩
                rcases Nat.lt_or_eq_of_le (Nat.le_of_not_lt k) with k' | k'
                · rw [cmpZ_gt k']; decide
                · rw [cmpZ_eq k'.symm]; decide
            have a8 := below1 w7 (.cells #[.int .u32 1] 58)
            have n8 := dig_new1 w7 58 1 1 rfl (by decide)
            have K8 := Lib.hid (K7.out.below a8)
            have HG := Lib.hid (rncmp_l v A n c ds e0 _ 1 1 [1] (-1022) _ K8.out.2.1 n8 ba (dbare_one (by decide)) hn (by decide) (by rw [dval_one]; decide) h1 h2 (by decide) (by decide) (by rw [hS, dval_one, sz_norm rfl]; exact hv))
            have x0 := K7.out.1.c0
            have x1 := K7.out.1.c1
            have x2 := K7.out.1.c2
            have Hvc := Lib.hid hvc
            clear hv hvc a8 n8 HF hF Hlow
            go_wp2_with fail
            refine HG.out.mono ?_
            rintro e w9 ⟨rfl, hb9⟩
            have Hfin := Lib.hid (K8.out.below hb9).2.2
            clear hb9 HG K7 K8 x0 x1 x2
            rcases Hvc.out with ⟨rfl, rfl⟩ | ⟨hv0, rfl⟩
            · clear Hvc
              go_wp2
              go_ret2
              exact ⟨rfl, Hfin.out⟩
            · clear Hvc
              go_wp2
              go_ret2
              exact ⟨rfl, Hfin.out⟩
end Go.Proofs.Ytfccpjjdemanbaa
