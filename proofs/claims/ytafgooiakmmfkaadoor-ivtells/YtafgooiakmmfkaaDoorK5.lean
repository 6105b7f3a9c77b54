/- RnSum, RnCmp, GnSum, GnAdd, GnCmp: joined. -/
import Derived.Test.YtafgooiakmmfkaaDoorK3
/- The document's numbers: planimeterref05.Add of two that aren't 0. Written by law_rsum.py. -/
namespace Go.Proofs.YtafgooiakmmfkaaDoor
open Go.RowKit

/-- .. and the result's block. -/
def HS3 (w0 : World) (b1 : Nat) (g : Bool) (A : Option Addr) (n c : Nat) (ds : List Nat) (e1 : Int) (b2 : Nat) (k : Bool) (B : Option Addr) (m d : Nat) (es : List Nat) (e2 : Int) (b3 : Nat) (w : World) : Prop :=
  HN w0 b1 g A n c ds e1 b2 k B m d es e2 w ∧ Bd w b3 31 false none 0 0 0
abbrev CellsS (w0 : World) (b1 : Nat) (g : Bool) (A : Option Addr) (n c : Nat) (ds : List Nat) (e1 : Int) (b2 : Nat) (k : Bool) (B : Option Addr) (m d : Nat) (es : List Nat) (e2 : Int) (b3 : Nat) (w' : World) : Prop :=
  w'.cell? ⟨b1, 0, none⟩ = some (.bool g) ∧ w'.cell? ⟨b1, 1, none⟩ = some (.slice A n c) ∧ w'.cell? ⟨b1, 2, none⟩ = some (.int .i64 e1) ∧ w'.cell? ⟨b2, 0, none⟩ = some (.bool k) ∧ w'.cell? ⟨b2, 1, none⟩ = some (.slice B m d) ∧ w'.cell? ⟨b2, 2, none⟩ = some (.int .i64 e2) ∧ Hid (HS3 w0 b1 g A n c ds e1 b2 k B m d es e2 b3 w')
section
variable {w0 : World} {b1 : Nat} {g : Bool} {A : Option Addr} {n c : Nat} {ds : List Nat} {e1 : Int} {b2 : Nat} {k : Bool} {B : Option Addr} {m d : Nat} {es : List Nat} {e2 : Int} {b3 : Nat} {w w' : World}
theorem HS3.below (h : HS3 w0 b1 g A n c ds e1 b2 k B m d es e2 b3 w) (hb : Below w.heap.size w w') : HS3 w0 b1 g A n c ds e1 b2 k B m d es e2 b3 w' := ⟨h.1.below hb, h.2.below hb⟩
theorem HS3.cells (h : HS3 w0 b1 g A n c ds e1 b2 k B m d es e2 b3 w) : CellsS w0 b1 g A n c ds e1 b2 k B m d es e2 b3 w := ⟨h.1.1.c0, h.1.1.c1, h.1.1.c2, h.1.2.1.c0, h.1.2.1.c1, h.1.2.1.c2, h⟩
end

set_option maxHeartbeats 1000000 in
theorem radd_sum_L (x y q : Nat) (A : Option Addr) (n c : Nat) (ds : List Nat) (e1 : Int) (B : Option Addr) (m d : Nat) (es : List Nat) (e2 : Int) (w : World) (hA : Dig w A n c ds) (hB : Dig w B m d es) (ba : D.Bare ds) (bb : D.Bare es) (hn : n ≤ 2600) (hm : m ≤ 2600) (hn0 : n ≠ 0) (hm0 : m ≠ 0)
    (hd : e1 - e2 = (q : Int)) (hq : q ≤ 24000) (hl : e2 < e1) (hx : Hid (D.val ds * 2 ^ q = x)) (hy : Hid (D.val es = y)) :
    Calls Tryd.prog 20 #[.agg #[.bool false, .slice A n c, .int .i64 e1], .agg #[.bool false, .slice B m d, .int .i64 e2]] w (NTold w ⟨false, x + y, e2⟩ 100001) := by
  have h0 : HS3 w w.heap.size false A n c ds e1 (w.heap.size + 1) false B m d es e2 (w.heap.size + 1 + 1) _ := HN.start3 w false A n c ds e1 false B m d es e2 hA hB
  have K0 := Lib.hid (h0.below (below_drew _)).cells
  have HP1 : Hid (∀ u, CellsS w w.heap.size false A n c ds e1 (w.heap.size + 1) false B m d es e2 (w.heap.size + 1 + 1) u → Calls Tryd.prog 44 #[.slice A n c, .int .i64 (q : Int)] u fun e w' => ∃ (A6 : Option Addr) (m6 c6 : Nat) (ps : List Nat), e = .returned (.slice A6 m6 c6) ∧ m6 ≤ 100000 ∧ CellsS w w.heap.size false A n c ds e1 (w.heap.size + 1) false B m d es e2 (w.heap.size + 1 + 1) w' ∧ Hid (Dig w' A6 m6 c6 ps ∧ D.Bare ps ∧ D.val ps = x ∧ Below u.heap.size u w')) := fun u hu => by
    have h := hu.2.2.2.2.2.2.out
    have this := rshl_any A n c ds q u h.1.2.2.1 ba (by omega) (by omega)
    rw [hx.out] at this
    refine this.mono ?_
    rintro e w' ⟨A6, m6, c6, ps, rfl, q1, q2, q3, q4, q5⟩
    exact ⟨A6, m6, c6, ps, rfl, q1, (h.below q5).cells, q2, q3, q4, q5⟩
  have HP2 : Hid (∀ u, CellsS w w.heap.size false A n c ds e1 (w.heap.size + 1) false B m d es e2 (w.heap.size + 1 + 1) u → Calls Tryd.prog 44 #[.slice B m d, .int .i64 0] u fun e w' => ∃ (A6 : Option Addr) (m6 c6 : Nat) (ps : List Nat), e = .returned (.slice A6 m6 c6) ∧ m6 ≤ 100000 ∧ CellsS w w.heap.size false A n c ds e1 (w.heap.size + 1) false B m d es e2 (w.heap.size + 1 + 1) w' ∧ Hid (Dig w' A6 m6 c6 ps ∧ D.Bare ps ∧ D.val ps = y ∧ Below u.heap.size u w')) := fun u hu => by
    have h := hu.2.2.2.2.2.2.out
    have this := rshl_any B m d es 0 u h.1.2.2.2.1 bb (by omega) (by omega)
    rw [show ((0 : Nat) : Int) = 0 from rfl, Nat.pow_zero, Nat.mul_one] at this
    rw [hy.out] at this
    refine this.mono ?_
    rintro e w' ⟨A6, m6, c6, ps, rfl, q1, q2, q3, q4, q5⟩
    exact ⟨A6, m6, c6, ps, rfl, q1, (h.below q5).cells, q2, q3, q4, q5⟩
  have hwq : IntKind.i64.wrap (q : Int) = (q : Int) := by rw [IntKind.wrap_i64]; omega
  have hw0 : IntKind.i64.wrap 0 = 0 := by decide
  have c1 : ((n : Int) == 0) = false := beq_no (by omega)
  have c2 : ((m : Int) == 0) = false := beq_no (by omega)
  have x1 := h0.1.1.c1
  have x2 := h0.1.1.c2
  have y1 := h0.1.2.1.c1
  have y2 := h0.1.2.1.c2
  have b1 : decide (e2 < e1) = true := decide_eq_true hl
  clear hA hB ba bb hx hy h0 hl hn0 hm0
  go_enter Tryd.func20, Tryd.ntmps20
  go_wp2_with fail
  go_region_held3 (fun w' => w'.cell? ⟨w.heap.size, 0, none⟩ = some (.bool false) ∧ w'.cell? ⟨w.heap.size, 1, none⟩ = some (.slice A n c) ∧ w'.cell? ⟨w.heap.size, 2, none⟩ = some (.int .i64 e1) ∧ w'.cell? ⟨w.heap.size + 1, 0, none⟩ = some (.bool false) ∧ w'.cell? ⟨w.heap.size + 1, 1, none⟩ = some (.slice B m d) ∧ w'.cell? ⟨w.heap.size + 1, 2, none⟩ = some (.int .i64 e2) ∧ Hid (HS3 w w.heap.size false A n c ds e1 (w.heap.size + 1) false B m d es e2 (w.heap.size + 1 + 1) w'))
    (first | (with_reducible exact K0.out) | (with_reducible assumption))
    (first | (go_at_call 44; (with_reducible refine (HP1.out _ (by first | (with_reducible exact K0.out) | (with_reducible assumption))).mono ?_); rintro e w1 ⟨A6, m6, c6, ps, rfl, hm6, hY, hP6⟩) | (go_at_call 44; (with_reducible refine (HP2.out _ (by first | (with_reducible exact K0.out) | (with_reducible assumption))).mono ?_); rintro e w2 ⟨A7, m7, c7, qs, rfl, hm7, hZ, hP7⟩))
  have G1 := hP6.out.1.below hP7.out.2.2.2
  have G2 := hP7.out.1
  have HZ := Lib.hid hZ.2.2.2.2.2.2.out
  have HB := Lib.hid (And.intro hP6.out.2.1 (And.intro hP6.out.2.2.1 (And.intro hP7.out.2.1 hP7.out.2.2.1)))
  have Z0 := Lib.hid (HZ.out.below (below_drew _)).cells
  have HC : Hid (∀ u, Dig u A6 m6 c6 ps → Dig u A7 m7 c7 qs → CellsS w w.heap.size false A n c ds e1 (w.heap.size + 1) false B m d es e2 (w.heap.size + 1 + 1) u → Calls Tryd.prog 45 #[.slice A6 m6 c6, .slice A7 m7 c7] u fun e w' => ∃ (A8 : Option Addr) (m8 c8 : Nat) (rs : List Nat), e = .returned (.slice A8 m8 c8) ∧ m8 ≤ 100001 ∧ CellsS w w.heap.size false A n c ds e1 (w.heap.size + 1) false B m d es e2 (w.heap.size + 1 + 1) w' ∧ Hid (Dig w' A8 m8 c8 rs ∧ D.Bare rs ∧ D.val rs = x + y)) := fun u d1 d2 hu => by
    have h := hu.2.2.2.2.2.2.out
    refine (radd_any A6 m6 c6 ps A7 m7 c7 qs u d1 d2 HB.out.1 HB.out.2.2.1 (by omega) (by omega)).mono ?_
    rintro e w' ⟨A8, m8, c8, rs, rfl, q1, q2, q3, q4, q5⟩
    exact ⟨A8, m8, c8, rs, rfl, by omega, (h.below q5).cells, q2, q3, by rw [q4, HB.out.2.1, HB.out.2.2.2]⟩
  have G1h := Lib.hid (G1.drew)
  have G2h := Lib.hid (G2.drew)
  clear K0 HP1 HP2 hY hP6 hP7 c1 c2 x1 x2 y1 y2 b1 G1 G2
  obtain ⟨x0, x1, x2, y0, y1, y2, _⟩ := hZ
  go_wp2_with fail
  go_region_held3 (fun w' => w'.cell? ⟨w.heap.size, 0, none⟩ = some (.bool false))
    (first | (with_reducible exact Z0.out.1) | (with_reducible exact Kp.out) | (with_reducible exact hX.1))
    ((go_at_call 45; (with_reducible refine (HC.out _ G1h.out G2h.out Z0.out).mono ?_); rintro e w9 ⟨A8, m8, c8, rs, rfl, hm8, hX, hP8⟩; have kb := hX.2.2.2.2.2.2.out.2; have u0 := kb.c0; have u1 := kb.c1; have u2 := kb.c2; have uf := kb.fz; have Hfin : Hid (NTold w ⟨false, x + y, e2⟩ 100001 (.returned (.agg #[.bool false, .slice A8 m8 c8, .int .i64 e2])) (World.put w9 (w.heap.size + 1 + 1) false A8 m8 c8 e2)) := ⟨A8, m8, c8, rs, rfl, hm8, kb.dig hP8.out.1 _ _ _ _ _, hP8.out.2.1, hP8.out.2.2, below_put hX.2.2.2.2.2.2.out.1.2.2.2.2 (by omega) _ _ _ _ _⟩; have hW := hX.2.2.2.2.2.2.out; have Kp : Hid (World.cell? (World.put w9 (w.heap.size + 1 + 1) false A8 m8 c8 e2) ⟨w.heap.size, 0, none⟩ = some (.bool false)) := (hW.1.1.other (by omega) _ _ _ _ _).c0; clear kb hP8 hW))
  all_goals (
    go_wp2_with fail
    exact bodyPost_ret (v := .agg #[.bool false, .slice A8 m8 c8, .int .i64 e2]) (by simp [results, Tryd.results20, go_sem, u0, u1, u2]) rfl Hfin.out)

set_option maxHeartbeats 1000000 in
theorem radd_sum_G (x y q : Nat) (A : Option Addr) (n c : Nat) (ds : List Nat) (e1 : Int) (B : Option Addr) (m d : Nat) (es : List Nat) (e2 : Int) (w : World) (hA : Dig w A n c ds) (hB : Dig w B m d es) (ba : D.Bare ds) (bb : D.Bare es) (hn : n ≤ 2600) (hm : m ≤ 2600) (hn0 : n ≠ 0) (hm0 : m ≠ 0)
    (hd : e2 - e1 = (q : Int)) (hq : q ≤ 24000) (hx : Hid (D.val ds = x)) (hy : Hid (D.val es * 2 ^ q = y)) :
    Calls Tryd.prog 20 #[.agg #[.bool false, .slice A n c, .int .i64 e1], .agg #[.bool false, .slice B m d, .int .i64 e2]] w (NTold w ⟨false, x + y, e1⟩ 100001) := by
  have h0 : HS3 w w.heap.size false A n c ds e1 (w.heap.size + 1) false B m d es e2 (w.heap.size + 1 + 1) _ := HN.start3 w false A n c ds e1 false B m d es e2 hA hB
  have K0 := Lib.hid (h0.below (below_drew _)).cells
  have HP1 : Hid (∀ u, CellsS w w.heap.size false A n c ds e1 (w.heap.size + 1) false B m d es e2 (w.heap.size + 1 + 1) u → Calls Tryd.prog 44 #[.slice A n c, .int .i64 0] u fun e w' => ∃ (A6 : Option Addr) (m6 c6 : Nat) (ps : List Nat), e = .returned (.slice A6 m6 c6) ∧ m6 ≤ 100000 ∧ CellsS w w.heap.size false A n c ds e1 (w.heap.size + 1) false B m d es e2 (w.heap.size + 1 + 1) w' ∧ Hid (Dig w' A6 m6 c6 ps ∧ D.Bare ps ∧ D.val ps = x ∧ Below u.heap.size u w')) := fun u hu => by
    have h := hu.2.2.2.2.2.2.out
    have this := rshl_any A n c ds 0 u h.1.2.2.1 ba (by omega) (by omega)
    rw [show ((0 : Nat) : Int) = 0 from rfl, Nat.pow_zero, Nat.mul_one] at this
    rw [hx.out] at this
    refine this.mono ?_
    rintro e w' ⟨A6, m6, c6, ps, rfl, q1, q2, q3, q4, q5⟩
    exact ⟨A6, m6, c6, ps, rfl, q1, (h.below q5).cells, q2, q3, q4, q5⟩
  have HP2 : Hid (∀ u, CellsS w w.heap.size false A n c ds e1 (w.heap.size + 1) false B m d es e2 (w.heap.size + 1 + 1) u → Calls Tryd.prog 44 #[.slice B m d, .int .i64 (q : Int)] u fun e w' => ∃ (A6 : Option Addr) (m6 c6 : Nat) (ps : List Nat), e = .returned (.slice A6 m6 c6) ∧ m6 ≤ 100000 ∧ CellsS w w.heap.size false A n c ds e1 (w.heap.size + 1) false B m d es e2 (w.heap.size + 1 + 1) w' ∧ Hid (Dig w' A6 m6 c6 ps ∧ D.Bare ps ∧ D.val ps = y ∧ Below u.heap.size u w')) := fun u hu => by
    have h := hu.2.2.2.2.2.2.out
    have this := rshl_any B m d es q u h.1.2.2.2.1 bb (by omega) (by omega)
    rw [hy.out] at this
    refine this.mono ?_
    rintro e w' ⟨A6, m6, c6, ps, rfl, q1, q2, q3, q4, q5⟩
    exact ⟨A6, m6, c6, ps, rfl, q1, (h.below q5).cells, q2, q3, q4, q5⟩
  have hwq : IntKind.i64.wrap (q : Int) = (q : Int) := by rw [IntKind.wrap_i64]; omega
  have hw0 : IntKind.i64.wrap 0 = 0 := by decide
  have c1 : ((n : Int) == 0) = false := beq_no (by omega)
  have c2 : ((m : Int) == 0) = false := beq_no (by omega)
  have x1 := h0.1.1.c1
  have x2 := h0.1.1.c2
  have y1 := h0.1.2.1.c1
  have y2 := h0.1.2.1.c2
  have b1 : decide (e2 < e1) = false := decide_eq_false (by omega)
  clear hA hB ba bb hx hy h0 hn0 hm0
  go_enter Tryd.func20, Tryd.ntmps20
  go_wp2_with fail
  go_region_held3 (fun w' => w'.cell? ⟨w.heap.size, 0, none⟩ = some (.bool false) ∧ w'.cell? ⟨w.heap.size, 1, none⟩ = some (.slice A n c) ∧ w'.cell? ⟨w.heap.size, 2, none⟩ = some (.int .i64 e1) ∧ w'.cell? ⟨w.heap.size + 1, 0, none⟩ = some (.bool false) ∧ w'.cell? ⟨w.heap.size + 1, 1, none⟩ = some (.slice B m d) ∧ w'.cell? ⟨w.heap.size + 1, 2, none⟩ = some (.int .i64 e2) ∧ Hid (HS3 w w.heap.size false A n c ds e1 (w.heap.size + 1) false B m d es e2 (w.heap.size + 1 + 1) w'))
    (first | (with_reducible exact K0.out) | (with_reducible assumption))
    (first | (go_at_call 44; (with_reducible refine (HP1.out _ (by first | (with_reducible exact K0.out) | (with_reducible assumption))).mono ?_); rintro e w1 ⟨A6, m6, c6, ps, rfl, hm6, hY, hP6⟩) | (go_at_call 44; (with_reducible refine (HP2.out _ (by first | (with_reducible exact K0.out) | (with_reducible assumption))).mono ?_); rintro e w2 ⟨A7, m7, c7, qs, rfl, hm7, hZ, hP7⟩))
  have G1 := hP6.out.1.below hP7.out.2.2.2
  have G2 := hP7.out.1
  have HZ := Lib.hid hZ.2.2.2.2.2.2.out
  have HB := Lib.hid (And.intro hP6.out.2.1 (And.intro hP6.out.2.2.1 (And.intro hP7.out.2.1 hP7.out.2.2.1)))
  have Z0 := Lib.hid (HZ.out.below (below_drew _)).cells
  have HC : Hid (∀ u, Dig u A6 m6 c6 ps → Dig u A7 m7 c7 qs → CellsS w w.heap.size false A n c ds e1 (w.heap.size + 1) false B m d es e2 (w.heap.size + 1 + 1) u → Calls Tryd.prog 45 #[.slice A6 m6 c6, .slice A7 m7 c7] u fun e w' => ∃ (A8 : Option Addr) (m8 c8 : Nat) (rs : List Nat), e = .returned (.slice A8 m8 c8) ∧ m8 ≤ 100001 ∧ CellsS w w.heap.size false A n c ds e1 (w.heap.size + 1) false B m d es e2 (w.heap.size + 1 + 1) w' ∧ Hid (Dig w' A8 m8 c8 rs ∧ D.Bare rs ∧ D.val rs = x + y)) := fun u d1 d2 hu => by
    have h := hu.2.2.2.2.2.2.out
    refine (radd_any A6 m6 c6 ps A7 m7 c7 qs u d1 d2 HB.out.1 HB.out.2.2.1 (by omega) (by omega)).mono ?_
    rintro e w' ⟨A8, m8, c8, rs, rfl, q1, q2, q3, q4, q5⟩
    exact ⟨A8, m8, c8, rs, rfl, by omega, (h.below q5).cells, q2, q3, by rw [q4, HB.out.2.1, HB.out.2.2.2]⟩
  have G1h := Lib.hid (G1.drew)
  have G2h := Lib.hid (G2.drew)
  clear K0 HP1 HP2 hY hP6 hP7 c1 c2 x1 x2 y1 y2 b1 G1 G2
  obtain ⟨x0, x1, x2, y0, y1, y2, _⟩ := hZ
  go_wp2_with fail
  go_region_held3 (fun w' => w'.cell? ⟨w.heap.size, 0, none⟩ = some (.bool false))
    (first | (with_reducible exact Z0.out.1) | (with_reducible exact Kp.out) | (with_reducible exact hX.1))
    ((go_at_call 45; (with_reducible refine (HC.out _ G1h.out G2h.out Z0.out).mono ?_); rintro e w9 ⟨A8, m8, c8, rs, rfl, hm8, hX, hP8⟩; have kb := hX.2.2.2.2.2.2.out.2; have u0 := kb.c0; have u1 := kb.c1; have u2 := kb.c2; have uf := kb.fz; have Hfin : Hid (NTold w ⟨false, x + y, e1⟩ 100001 (.returned (.agg #[.bool false, .slice A8 m8 c8, .int .i64 e1])) (World.put w9 (w.heap.size + 1 + 1) false A8 m8 c8 e1)) := ⟨A8, m8, c8, rs, rfl, hm8, kb.dig hP8.out.1 _ _ _ _ _, hP8.out.2.1, hP8.out.2.2, below_put hX.2.2.2.2.2.2.out.1.2.2.2.2 (by omega) _ _ _ _ _⟩; have hW := hX.2.2.2.2.2.2.out; have Kp : Hid (World.cell? (World.put w9 (w.heap.size + 1 + 1) false A8 m8 c8 e1) ⟨w.heap.size, 0, none⟩ = some (.bool false)) := (hW.1.1.other (by omega) _ _ _ _ _).c0; clear kb hP8 hW))
  all_goals (
    go_wp2_with fail
    exact bodyPost_ret (v := .agg #[.bool false, .slice A8 m8 c8, .int .i64 e1]) (by simp [results, Tryd.results20, go_sem, u0, u1, u2]) rfl Hfin.out)

set_option maxHeartbeats 1000000 in
theorem radd_ge_L (x y q : Nat) (A : Option Addr) (n c : Nat) (ds : List Nat) (e1 : Int) (B : Option Addr) (m d : Nat) (es : List Nat) (e2 : Int) (w : World) (hA : Dig w A n c ds) (hB : Dig w B m d es) (ba : D.Bare ds) (bb : D.Bare es) (hn : n ≤ 2600) (hm : m ≤ 2600) (hn0 : n ≠ 0) (hm0 : m ≠ 0)
    (hd : e1 - e2 = (q : Int)) (hq : q ≤ 24000) (hl : e2 < e1) (hx : Hid (D.val ds * 2 ^ q = x)) (hy : Hid (D.val es = y)) (ho : y ≤ x) :
    Calls Tryd.prog 20 #[.agg #[.bool false, .slice A n c, .int .i64 e1], .agg #[.bool true, .slice B m d, .int .i64 e2]] w (NTold w ⟨false, x - y, e2⟩ 100001) := by
  have h0 : HS3 w w.heap.size false A n c ds e1 (w.heap.size + 1) true B m d es e2 (w.heap.size + 1 + 1) _ := HN.start3 w false A n c ds e1 true B m d es e2 hA hB
  have K0 := Lib.hid (h0.below (below_drew _)).cells
  have HP1 : Hid (∀ u, CellsS w w.heap.size false A n c ds e1 (w.heap.size + 1) true B m d es e2 (w.heap.size + 1 + 1) u → Calls Tryd.prog 44 #[.slice A n c, .int .i64 (q : Int)] u fun e w' => ∃ (A6 : Option Addr) (m6 c6 : Nat) (ps : List Nat), e = .returned (.slice A6 m6 c6) ∧ m6 ≤ 100000 ∧ CellsS w w.heap.size false A n c ds e1 (w.heap.size + 1) true B m d es e2 (w.heap.size + 1 + 1) w' ∧ Hid (Dig w' A6 m6 c6 ps ∧ D.Bare ps ∧ D.val ps = x ∧ Below u.heap.size u w')) := fun u hu => by
    have h := hu.2.2.2.2.2.2.out
    have this := rshl_any A n c ds q u h.1.2.2.1 ba (by omega) (by omega)
    rw [hx.out] at this
    refine this.mono ?_
    rintro e w' ⟨A6, m6, c6, ps, rfl, q1, q2, q3, q4, q5⟩
    exact ⟨A6, m6, c6, ps, rfl, q1, (h.below q5).cells, q2, q3, q4, q5⟩
  have HP2 : Hid (∀ u, CellsS w w.heap.size false A n c ds e1 (w.heap.size + 1) true B m d es e2 (w.heap.size + 1 + 1) u → Calls Tryd.prog 44 #[.slice B m d, .int .i64 0] u fun e w' => ∃ (A6 : Option Addr) (m6 c6 : Nat) (ps : List Nat), e = .returned (.slice A6 m6 c6) ∧ m6 ≤ 100000 ∧ CellsS w w.heap.size false A n c ds e1 (w.heap.size + 1) true B m d es e2 (w.heap.size + 1 + 1) w' ∧ Hid (Dig w' A6 m6 c6 ps ∧ D.Bare ps ∧ D.val ps = y ∧ Below u.heap.size u w')) := fun u hu => by
    have h := hu.2.2.2.2.2.2.out
    have this := rshl_any B m d es 0 u h.1.2.2.2.1 bb (by omega) (by omega)
    rw [show ((0 : Nat) : Int) = 0 from rfl, Nat.pow_zero, Nat.mul_one] at this
    rw [hy.out] at this
    refine this.mono ?_
    rintro e w' ⟨A6, m6, c6, ps, rfl, q1, q2, q3, q4, q5⟩
    exact ⟨A6, m6, c6, ps, rfl, q1, (h.below q5).cells, q2, q3, q4, q5⟩
  have hwq : IntKind.i64.wrap (q : Int) = (q : Int) := by rw [IntKind.wrap_i64]; omega
  have hw0 : IntKind.i64.wrap 0 = 0 := by decide
  have c1 : ((n : Int) == 0) = false := beq_no (by omega)
  have c2 : ((m : Int) == 0) = false := beq_no (by omega)
  have x1 := h0.1.1.c1
  have x2 := h0.1.1.c2
  have y1 := h0.1.2.1.c1
  have y2 := h0.1.2.1.c2
  have b1 : decide (e2 < e1) = true := decide_eq_true hl
  clear hA hB ba bb hx hy h0 hl hn0 hm0
  go_enter Tryd.func20, Tryd.ntmps20
  go_wp2_with fail
  go_region_held3 (fun w' => w'.cell? ⟨w.heap.size, 0, none⟩ = some (.bool false) ∧ w'.cell? ⟨w.heap.size, 1, none⟩ = some (.slice A n c) ∧ w'.cell? ⟨w.heap.size, 2, none⟩ = some (.int .i64 e1) ∧ w'.cell? ⟨w.heap.size + 1, 0, none⟩ = some (.bool true) ∧ w'.cell? ⟨w.heap.size + 1, 1, none⟩ = some (.slice B m d) ∧ w'.cell? ⟨w.heap.size + 1, 2, none⟩ = some (.int .i64 e2) ∧ Hid (HS3 w w.heap.size false A n c ds e1 (w.heap.size + 1) true B m d es e2 (w.heap.size + 1 + 1) w'))
    (first | (with_reducible exact K0.out) | (with_reducible assumption))
    (first | (go_at_call 44; (with_reducible refine (HP1.out _ (by first | (with_reducible exact K0.out) | (with_reducible assumption))).mono ?_); rintro e w1 ⟨A6, m6, c6, ps, rfl, hm6, hY, hP6⟩) | (go_at_call 44; (with_reducible refine (HP2.out _ (by first | (with_reducible exact K0.out) | (with_reducible assumption))).mono ?_); rintro e w2 ⟨A7, m7, c7, qs, rfl, hm7, hZ, hP7⟩))
  have G1 := hP6.out.1.below hP7.out.2.2.2
  have G2 := hP7.out.1
  have HZ := Lib.hid hZ.2.2.2.2.2.2.out
  have HB := Lib.hid (And.intro hP6.out.2.1 (And.intro hP6.out.2.2.1 (And.intro hP7.out.2.1 hP7.out.2.2.1)))
  have Z0 := Lib.hid (HZ.out.below (below_drew _)).cells
  have HC : Hid (∀ u, Dig u A6 m6 c6 ps → Dig u A7 m7 c7 qs → CellsS w w.heap.size false A n c ds e1 (w.heap.size + 1) true B m d es e2 (w.heap.size + 1 + 1) u → Calls Tryd.prog 47 #[.slice A6 m6 c6, .slice A7 m7 c7] u fun e w' => ∃ (A8 : Option Addr) (m8 c8 : Nat) (rs : List Nat), e = .returned (.slice A8 m8 c8) ∧ m8 ≤ 100001 ∧ CellsS w w.heap.size false A n c ds e1 (w.heap.size + 1) true B m d es e2 (w.heap.size + 1 + 1) w' ∧ Hid (Dig w' A8 m8 c8 rs ∧ D.Bare rs ∧ D.val rs = x - y)) := fun u d1 d2 hu => by
    have h := hu.2.2.2.2.2.2.out
    refine (rsub_any A6 m6 c6 ps A7 m7 c7 qs u d1 d2 HB.out.2.2.1 (by rw [HB.out.2.1, HB.out.2.2.2]; exact ho) (by omega) (by omega)).mono ?_
    rintro e w' ⟨A8, m8, c8, rs, rfl, q1, q2, q3, q4, q5⟩
    exact ⟨A8, m8, c8, rs, rfl, by omega, (h.below q5).cells, q2, q3, by rw [q4, HB.out.2.1, HB.out.2.2.2]⟩
  obtain ⟨z, hz⟩ : ∃ z, cmpZ x y = z := ⟨_, rfl⟩
  have HR := rcmp_any A6 m6 c6 ps A7 m7 c7 qs w2 G1 G2 HB.out.1 HB.out.2.2.1 (by omega) (by omega)
  rw [HB.out.2.1, HB.out.2.2.2, hz] at HR
  have HR := Lib.hid HR
  have b3 : decide (0 ≤ z) = true := by
    rw [← hz]
    exact decide_eq_true (by have := cmpZ_bd x y; by_cases h : y < x; (rw [cmpZ_gt h]; decide); (rw [cmpZ_eq (by omega)]; decide))
  have G1h := Lib.hid G1
  have G2h := Lib.hid G2
  clear hz
  clear K0 HP1 HP2 hY hP6 hP7 c1 c2 x1 x2 y1 y2 b1 G1 G2
  obtain ⟨x0, x1, x2, y0, y1, y2, _⟩ := hZ
  go_wp2_with fail
  refine HR.out.mono ?_
  rintro e w3 ⟨rfl, nq, rfl⟩
  have Hq := Lib.hid (HZ.out.below (below_drewN (Below.refl _ _) nq))
  have Zq := Lib.hid (HZ.out.below (below_drewN (Below.refl _ _) (nq + 1))).cells
  have Zr := Lib.hid (Hq.out.below (below_drew _)).cells
  have G1q := Lib.hid (G1h.out.drewN (nq + 1))
  have G2q := Lib.hid (G2h.out.drewN (nq + 1))
  obtain ⟨v0, v1, v2, s0, s1, s2, _⟩ := Hq.out.cells
  clear x0 x1 x2 y0 y1 y2 HR HZ Z0
  go_wp2_with fail
  go_region_held3 (fun w' => w'.cell? ⟨w.heap.size, 0, none⟩ = some (.bool false))
    (first | (with_reducible exact Zq.out.1) | (with_reducible exact Zr.out.1) | (with_reducible exact Kp.out) | (with_reducible exact hX.1))
    ((go_at_call 47; (with_reducible refine (HC.out _ G1q.out G2q.out Zq.out).mono ?_); rintro e w9 ⟨A8, m8, c8, rs, rfl, hm8, hX, hP8⟩; have kb := hX.2.2.2.2.2.2.out.2; have u0 := kb.c0; have u1 := kb.c1; have u2 := kb.c2; have uf := kb.fz; have Hfin : Hid (NTold w ⟨false, x - y, e2⟩ 100001 (.returned (.agg #[.bool false, .slice A8 m8 c8, .int .i64 e2])) (World.put w9 (w.heap.size + 1 + 1) false A8 m8 c8 e2)) := ⟨A8, m8, c8, rs, rfl, hm8, kb.dig hP8.out.1 _ _ _ _ _, hP8.out.2.1, hP8.out.2.2, below_put hX.2.2.2.2.2.2.out.1.2.2.2.2 (by omega) _ _ _ _ _⟩; have hW := hX.2.2.2.2.2.2.out; have Kp : Hid (World.cell? (World.put w9 (w.heap.size + 1 + 1) false A8 m8 c8 e2) ⟨w.heap.size, 0, none⟩ = some (.bool false)) := (hW.1.1.other (by omega) _ _ _ _ _).c0; clear kb hP8 hW))
  all_goals (
    go_wp2_with fail
    exact bodyPost_ret (v := .agg #[.bool false, .slice A8 m8 c8, .int .i64 e2]) (by simp [results, Tryd.results20, go_sem, u0, u1, u2]) rfl Hfin.out)

set_option maxHeartbeats 1000000 in
theorem radd_ge_G (x y q : Nat) (A : Option Addr) (n c : Nat) (ds : List Nat) (e1 : Int) (B : Option Addr) (m d : Nat) (es : List Nat) (e2 : Int) (w : World) (hA : Dig w A n c ds) (hB : Dig w B m d es) (ba : D.Bare ds) (bb : D.Bare es) (hn : n ≤ 2600) (hm : m ≤ 2600) (hn0 : n ≠ 0) (hm0 : m ≠ 0)
    (hd : e2 - e1 = (q : Int)) (hq : q ≤ 24000) (hx : Hid (D.val ds = x)) (hy : Hid (D.val es * 2 ^ q = y)) (ho : y ≤ x) :
    Calls Tryd.prog 20 #[.agg #[.bool false, .slice A n c, .int .i64 e1], .agg #[.bool true, .slice B m d, .int .i64 e2]] w (NTold w ⟨false, x - y, e1⟩ 100001) := by
  have h0 : HS3 w w.heap.size false A n c ds e1 (w.heap.size + 1) true B m d es e2 (w.heap.size + 1 + 1) _ := HN.start3 w false A n c ds e1 true B m d es e2 hA hB
  have K0 := Lib.hid (h0.below (below_drew _)).cells
  have HP1 : Hid (∀ u, CellsS w w.heap.size false A n c ds e1 (w.heap.size + 1) true B m d es e2 (w.heap.size + 1 + 1) u → Calls Tryd.prog 44 #[.slice A n c, .int .i64 0] u fun e w' => ∃ (A6 : Option Addr) (m6 c6 : Nat) (ps : List Nat), e = .returned (.slice A6 m6 c6) ∧ m6 ≤ 100000 ∧ CellsS w w.heap.size false A n c ds e1 (w.heap.size + 1) true B m d es e2 (w.heap.size + 1 + 1) w' ∧ Hid (Dig w' A6 m6 c6 ps ∧ D.Bare ps ∧ D.val ps = x ∧ Below u.heap.size u w')) := fun u hu => by
    have h := hu.2.2.2.2.2.2.out
    have this := rshl_any A n c ds 0 u h.1.2.2.1 ba (by omega) (by omega)
    rw [show ((0 : Nat) : Int) = 0 from rfl, Nat.pow_zero, Nat.mul_one] at this
    rw [hx.out] at this
    refine this.mono ?_
    rintro e w' ⟨A6, m6, c6, ps, rfl, q1, q2, q3, q4, q5⟩
    exact ⟨A6, m6, c6, ps, rfl, q1, (h.below q5).cells, q2, q3, q4, q5⟩
  have HP2 : Hid (∀ u, CellsS w w.heap.size false A n c ds e1 (w.heap.size + 1) true B m d es e2 (w.heap.size + 1 + 1) u → Calls Tryd.prog 44 #[.slice B m d, .int .i64 (q : Int)] u fun e w' => ∃ (A6 : Option Addr) (m6 c6 : Nat) (ps : List Nat), e = .returned (.slice A6 m6 c6) ∧ m6 ≤ 100000 ∧ CellsS w w.heap.size false A n c ds e1 (w.heap.size + 1) true B m d es e2 (w.heap.size + 1 + 1) w' ∧ Hid (Dig w' A6 m6 c6 ps ∧ D.Bare ps ∧ D.val ps = y ∧ Below u.heap.size u w')) := fun u hu => by
    have h := hu.2.2.2.2.2.2.out
    have this := rshl_any B m d es q u h.1.2.2.2.1 bb (by omega) (by omega)
    rw [hy.out] at this
    refine this.mono ?_
    rintro e w' ⟨A6, m6, c6, ps, rfl, q1, q2, q3, q4, q5⟩
    exact ⟨A6, m6, c6, ps, rfl, q1, (h.below q5).cells, q2, q3, q4, q5⟩
  have hwq : IntKind.i64.wrap (q : Int) = (q : Int) := by rw [IntKind.wrap_i64]; omega
  have hw0 : IntKind.i64.wrap 0 = 0 := by decide
  have c1 : ((n : Int) == 0) = false := beq_no (by omega)
  have c2 : ((m : Int) == 0) = false := beq_no (by omega)
  have x1 := h0.1.1.c1
  have x2 := h0.1.1.c2
  have y1 := h0.1.2.1.c1
  have y2 := h0.1.2.1.c2
  have b1 : decide (e2 < e1) = false := decide_eq_false (by omega)
  clear hA hB ba bb hx hy h0 hn0 hm0
  go_enter Tryd.func20, Tryd.ntmps20
  go_wp2_with fail
  go_region_held3 (fun w' => w'.cell? ⟨w.heap.size, 0, none⟩ = some (.bool false) ∧ w'.cell? ⟨w.heap.size, 1, none⟩ = some (.slice A n c) ∧ w'.cell? ⟨w.heap.size, 2, none⟩ = some (.int .i64 e1) ∧ w'.cell? ⟨w.heap.size + 1, 0, none⟩ = some (.bool true) ∧ w'.cell? ⟨w.heap.size + 1, 1, none⟩ = some (.slice B m d) ∧ w'.cell? ⟨w.heap.size + 1, 2, none⟩ = some (.int .i64 e2) ∧ Hid (HS3 w w.heap.size false A n c ds e1 (w.heap.size + 1) true B m d es e2 (w.heap.size + 1 + 1) w'))
    (first | (with_reducible exact K0.out) | (with_reducible assumption))
    (first | (go_at_call 44; (with_reducible refine (HP1.out _ (by first | (with_reducible exact K0.out) | (with_reducible assumption))).mono ?_); rintro e w1 ⟨A6, m6, c6, ps, rfl, hm6, hY, hP6⟩) | (go_at_call 44; (with_reducible refine (HP2.out _ (by first | (with_reducible exact K0.out) | (with_reducible assumption))).mono ?_); rintro e w2 ⟨A7, m7, c7, qs, rfl, hm7, hZ, hP7⟩))
  have G1 := hP6.out.1.below hP7.out.2.2.2
  have G2 := hP7.out.1
  have HZ := Lib.hid hZ.2.2.2.2.2.2.out
  have HB := Lib.hid (And.intro hP6.out.2.1 (And.intro hP6.out.2.2.1 (And.intro hP7.out.2.1 hP7.out.2.2.1)))
  have Z0 := Lib.hid (HZ.out.below (below_drew _)).cells
  have HC : Hid (∀ u, Dig u A6 m6 c6 ps → Dig u A7 m7 c7 qs → CellsS w w.heap.size false A n c ds e1 (w.heap.size + 1) true B m d es e2 (w.heap.size + 1 + 1) u → Calls Tryd.prog 47 #[.slice A6 m6 c6, .slice A7 m7 c7] u fun e w' => ∃ (A8 : Option Addr) (m8 c8 : Nat) (rs : List Nat), e = .returned (.slice A8 m8 c8) ∧ m8 ≤ 100001 ∧ CellsS w w.heap.size false A n c ds e1 (w.heap.size + 1) true B m d es e2 (w.heap.size + 1 + 1) w' ∧ Hid (Dig w' A8 m8 c8 rs ∧ D.Bare rs ∧ D.val rs = x - y)) := fun u d1 d2 hu => by
    have h := hu.2.2.2.2.2.2.out
    refine (rsub_any A6 m6 c6 ps A7 m7 c7 qs u d1 d2 HB.out.2.2.1 (by rw [HB.out.2.1, HB.out.2.2.2]; exact ho) (by omega) (by omega)).mono ?_
    rintro e w' ⟨A8, m8, c8, rs, rfl, q1, q2, q3, q4, q5⟩
    exact ⟨A8, m8, c8, rs, rfl, by omega, (h.below q5).cells, q2, q3, by rw [q4, HB.out.2.1, HB.out.2.2.2]⟩
  obtain ⟨z, hz⟩ : ∃ z, cmpZ x y = z := ⟨_, rfl⟩
  have HR := rcmp_any A6 m6 c6 ps A7 m7 c7 qs w2 G1 G2 HB.out.1 HB.out.2.2.1 (by omega) (by omega)
  rw [HB.out.2.1, HB.out.2.2.2, hz] at HR
  have HR := Lib.hid HR
  have b3 : decide (0 ≤ z) = true := by
    rw [← hz]
    exact decide_eq_true (by have := cmpZ_bd x y; by_cases h : y < x; (rw [cmpZ_gt h]; decide); (rw [cmpZ_eq (by omega)]; decide))
  have G1h := Lib.hid G1
  have G2h := Lib.hid G2
  clear hz
  clear K0 HP1 HP2 hY hP6 hP7 c1 c2 x1 x2 y1 y2 b1 G1 G2
  obtain ⟨x0, x1, x2, y0, y1, y2, _⟩ := hZ
  go_wp2_with fail
  refine HR.out.mono ?_
  rintro e w3 ⟨rfl, nq, rfl⟩
  have Hq := Lib.hid (HZ.out.below (below_drewN (Below.refl _ _) nq))
  have Zq := Lib.hid (HZ.out.below (below_drewN (Below.refl _ _) (nq + 1))).cells
  have Zr := Lib.hid (Hq.out.below (below_drew _)).cells
  have G1q := Lib.hid (G1h.out.drewN (nq + 1))
  have G2q := Lib.hid (G2h.out.drewN (nq + 1))
  obtain ⟨v0, v1, v2, s0, s1, s2, _⟩ := Hq.out.cells
  clear x0 x1 x2 y0 y1 y2 HR HZ Z0
  go_wp2_with fail
  go_region_held3 (fun w' => w'.cell? ⟨w.heap.size, 0, none⟩ = some (.bool false))
    (first | (with_reducible exact Zq.out.1) | (with_reducible exact Zr.out.1) | (with_reducible exact Kp.out) | (with_reducible exact hX.1))
    ((go_at_call 47; (with_reducible refine (HC.out _ G1q.out G2q.out Zq.out).mono ?_); rintro e w9 ⟨A8, m8, c8, rs, rfl, hm8, hX, hP8⟩; have kb := hX.2.2.2.2.2.2.out.2; have u0 := kb.c0; have u1 := kb.c1; have u2 := kb.c2; have uf := kb.fz; have Hfin : Hid (NTold w ⟨false, x - y, e1⟩ 100001 (.returned (.agg #[.bool false, .slice A8 m8 c8, .int .i64 e1])) (World.put w9 (w.heap.size + 1 + 1) false A8 m8 c8 e1)) := ⟨A8, m8, c8, rs, rfl, hm8, kb.dig hP8.out.1 _ _ _ _ _, hP8.out.2.1, hP8.out.2.2, below_put hX.2.2.2.2.2.2.out.1.2.2.2.2 (by omega) _ _ _ _ _⟩; have hW := hX.2.2.2.2.2.2.out; have Kp : Hid (World.cell? (World.put w9 (w.heap.size + 1 + 1) false A8 m8 c8 e1) ⟨w.heap.size, 0, none⟩ = some (.bool false)) := (hW.1.1.other (by omega) _ _ _ _ _).c0; clear kb hP8 hW))
  all_goals (
    go_wp2_with fail
    exact bodyPost_ret (v := .agg #[.bool false, .slice A8 m8 c8, .int .i64 e1]) (by simp [results, Tryd.results20, go_sem, u0, u1, u2]) rfl Hfin.out)

set_option maxHeartbeats 1000000 in
theorem radd_lt_L (x y q : Nat) (A : Option Addr) (n c : Nat) (ds : List Nat) (e1 : Int) (B : Option Addr) (m d : Nat) (es : List Nat) (e2 : Int) (w : World) (hA : Dig w A n c ds) (hB : Dig w B m d es) (ba : D.Bare ds) (bb : D.Bare es) (hn : n ≤ 2600) (hm : m ≤ 2600) (hn0 : n ≠ 0) (hm0 : m ≠ 0)
    (hd : e1 - e2 = (q : Int)) (hq : q ≤ 24000) (hl : e2 < e1) (hx : Hid (D.val ds * 2 ^ q = x)) (hy : Hid (D.val es = y)) (ho : x < y) :
    Calls Tryd.prog 20 #[.agg #[.bool false, .slice A n c, .int .i64 e1], .agg #[.bool true, .slice B m d, .int .i64 e2]] w (NTold w ⟨true, y - x, e2⟩ 100001) := by
  have h0 : HS3 w w.heap.size false A n c ds e1 (w.heap.size + 1) true B m d es e2 (w.heap.size + 1 + 1) _ := HN.start3 w false A n c ds e1 true B m d es e2 hA hB
  have K0 := Lib.hid (h0.below (below_drew _)).cells
  have HP1 : Hid (∀ u, CellsS w w.heap.size false A n c ds e1 (w.heap.size + 1) true B m d es e2 (w.heap.size + 1 + 1) u → Calls Tryd.prog 44 #[.slice A n c, .int .i64 (q : Int)] u fun e w' => ∃ (A6 : Option Addr) (m6 c6 : Nat) (ps : List Nat), e = .returned (.slice A6 m6 c6) ∧ m6 ≤ 100000 ∧ CellsS w w.heap.size false A n c ds e1 (w.heap.size + 1) true B m d es e2 (w.heap.size + 1 + 1) w' ∧ Hid (Dig w' A6 m6 c6 ps ∧ D.Bare ps ∧ D.val ps = x ∧ Below u.heap.size u w')) := fun u hu => by
    have h := hu.2.2.2.2.2.2.out
    have this := rshl_any A n c ds q u h.1.2.2.1 ba (by omega) (by omega)
    rw [hx.out] at this
    refine this.mono ?_
    rintro e w' ⟨A6, m6, c6, ps, rfl, q1, q2, q3, q4, q5⟩
    exact ⟨A6, m6, c6, ps, rfl, q1, (h.below q5).cells, q2, q3, q4, q5⟩
  have HP2 : Hid (∀ u, CellsS w w.heap.size false A n c ds e1 (w.heap.size + 1) true B m d es e2 (w.heap.size + 1 + 1) u → Calls Tryd.prog 44 #[.slice B m d, .int .i64 0] u fun e w' => ∃ (A6 : Option Addr) (m6 c6 : Nat) (ps : List Nat), e = .returned (.slice A6 m6 c6) ∧ m6 ≤ 100000 ∧ CellsS w w.heap.size false A n c ds e1 (w.heap.size + 1) true B m d es e2 (w.heap.size + 1 + 1) w' ∧ Hid (Dig w' A6 m6 c6 ps ∧ D.Bare ps ∧ D.val ps = y ∧ Below u.heap.size u w')) := fun u hu => by
    have h := hu.2.2.2.2.2.2.out
    have this := rshl_any B m d es 0 u h.1.2.2.2.1 bb (by omega) (by omega)
    rw [show ((0 : Nat) : Int) = 0 from rfl, Nat.pow_zero, Nat.mul_one] at this
    rw [hy.out] at this
    refine this.mono ?_
    rintro e w' ⟨A6, m6, c6, ps, rfl, q1, q2, q3, q4, q5⟩
    exact ⟨A6, m6, c6, ps, rfl, q1, (h.below q5).cells, q2, q3, q4, q5⟩
  have hwq : IntKind.i64.wrap (q : Int) = (q : Int) := by rw [IntKind.wrap_i64]; omega
  have hw0 : IntKind.i64.wrap 0 = 0 := by decide
  have c1 : ((n : Int) == 0) = false := beq_no (by omega)
  have c2 : ((m : Int) == 0) = false := beq_no (by omega)
  have x1 := h0.1.1.c1
  have x2 := h0.1.1.c2
  have y1 := h0.1.2.1.c1
  have y2 := h0.1.2.1.c2
  have b1 : decide (e2 < e1) = true := decide_eq_true hl
  clear hA hB ba bb hx hy h0 hl hn0 hm0
  go_enter Tryd.func20, Tryd.ntmps20
  go_wp2_with fail
  go_region_held3 (fun w' => w'.cell? ⟨w.heap.size, 0, none⟩ = some (.bool false) ∧ w'.cell? ⟨w.heap.size, 1, none⟩ = some (.slice A n c) ∧ w'.cell? ⟨w.heap.size, 2, none⟩ = some (.int .i64 e1) ∧ w'.cell? ⟨w.heap.size + 1, 0, none⟩ = some (.bool true) ∧ w'.cell? ⟨w.heap.size + 1, 1, none⟩ = some (.slice B m d) ∧ w'.cell? ⟨w.heap.size + 1, 2, none⟩ = some (.int .i64 e2) ∧ Hid (HS3 w w.heap.size false A n c ds e1 (w.heap.size + 1) true B m d es e2 (w.heap.size + 1 + 1) w'))
    (first | (with_reducible exact K0.out) | (with_reducible assumption))
    (first | (go_at_call 44; (with_reducible refine (HP1.out _ (by first | (with_reducible exact K0.out) | (with_reducible assumption))).mono ?_); rintro e w1 ⟨A6, m6, c6, ps, rfl, hm6, hY, hP6⟩) | (go_at_call 44; (with_reducible refine (HP2.out _ (by first | (with_reducible exact K0.out) | (with_reducible assumption))).mono ?_); rintro e w2 ⟨A7, m7, c7, qs, rfl, hm7, hZ, hP7⟩))
  have G1 := hP6.out.1.below hP7.out.2.2.2
  have G2 := hP7.out.1
  have HZ := Lib.hid hZ.2.2.2.2.2.2.out
  have HB := Lib.hid (And.intro hP6.out.2.1 (And.intro hP6.out.2.2.1 (And.intro hP7.out.2.1 hP7.out.2.2.1)))
  have Z0 := Lib.hid (HZ.out.below (below_drew _)).cells
  have HC : Hid (∀ u, Dig u A6 m6 c6 ps → Dig u A7 m7 c7 qs → CellsS w w.heap.size false A n c ds e1 (w.heap.size + 1) true B m d es e2 (w.heap.size + 1 + 1) u → Calls Tryd.prog 47 #[.slice A7 m7 c7, .slice A6 m6 c6] u fun e w' => ∃ (A8 : Option Addr) (m8 c8 : Nat) (rs : List Nat), e = .returned (.slice A8 m8 c8) ∧ m8 ≤ 100001 ∧ CellsS w w.heap.size false A n c ds e1 (w.heap.size + 1) true B m d es e2 (w.heap.size + 1 + 1) w' ∧ Hid (Dig w' A8 m8 c8 rs ∧ D.Bare rs ∧ D.val rs = y - x)) := fun u d1 d2 hu => by
    have h := hu.2.2.2.2.2.2.out
    refine (rsub_any A7 m7 c7 qs A6 m6 c6 ps u d2 d1 HB.out.1 (by rw [HB.out.2.1, HB.out.2.2.2]; omega) (by omega) (by omega)).mono ?_
    rintro e w' ⟨A8, m8, c8, rs, rfl, q1, q2, q3, q4, q5⟩
    exact ⟨A8, m8, c8, rs, rfl, by omega, (h.below q5).cells, q2, q3, by rw [q4, HB.out.2.1, HB.out.2.2.2]⟩
  obtain ⟨z, hz⟩ : ∃ z, cmpZ x y = z := ⟨_, rfl⟩
  have HR := rcmp_any A6 m6 c6 ps A7 m7 c7 qs w2 G1 G2 HB.out.1 HB.out.2.2.1 (by omega) (by omega)
  rw [HB.out.2.1, HB.out.2.2.2, hz] at HR
  have HR := Lib.hid HR
  have b3 : decide (0 ≤ z) = false := by
    rw [← hz]
    rw [cmpZ_lt ho]; rfl
  have G1h := Lib.hid G1
  have G2h := Lib.hid G2
  clear hz
  clear K0 HP1 HP2 hY hP6 hP7 c1 c2 x1 x2 y1 y2 b1 G1 G2
  obtain ⟨x0, x1, x2, y0, y1, y2, _⟩ := hZ
  go_wp2_with fail
  refine HR.out.mono ?_
  rintro e w3 ⟨rfl, nq, rfl⟩
  have Hq := Lib.hid (HZ.out.below (below_drewN (Below.refl _ _) nq))
  have Zq := Lib.hid (HZ.out.below (below_drewN (Below.refl _ _) (nq + 1))).cells
  have Zr := Lib.hid (Hq.out.below (below_drew _)).cells
  have G1q := Lib.hid (G1h.out.drewN (nq + 1))
  have G2q := Lib.hid (G2h.out.drewN (nq + 1))
  obtain ⟨v0, v1, v2, s0, s1, s2, _⟩ := Hq.out.cells
  clear x0 x1 x2 y0 y1 y2 HR HZ Z0
  go_wp2_with fail
  go_region_held3 (fun w' => w'.cell? ⟨w.heap.size + 1, 0, none⟩ = some (.bool true))
    (first | (with_reducible exact Zq.out.2.2.2.1) | (with_reducible exact Zr.out.2.2.2.1) | (with_reducible exact Kp.out) | (with_reducible exact hX.2.2.2.1))
    ((go_at_call 47; (with_reducible refine (HC.out _ G1q.out G2q.out Zq.out).mono ?_); rintro e w9 ⟨A8, m8, c8, rs, rfl, hm8, hX, hP8⟩; have kb := hX.2.2.2.2.2.2.out.2; have u0 := kb.c0; have u1 := kb.c1; have u2 := kb.c2; have uf := kb.fz; have Hfin : Hid (NTold w ⟨true, y - x, e2⟩ 100001 (.returned (.agg #[.bool true, .slice A8 m8 c8, .int .i64 e2])) (World.put w9 (w.heap.size + 1 + 1) true A8 m8 c8 e2)) := ⟨A8, m8, c8, rs, rfl, hm8, kb.dig hP8.out.1 _ _ _ _ _, hP8.out.2.1, hP8.out.2.2, below_put hX.2.2.2.2.2.2.out.1.2.2.2.2 (by omega) _ _ _ _ _⟩; have hW := hX.2.2.2.2.2.2.out; have Kp : Hid (World.cell? (World.put w9 (w.heap.size + 1 + 1) true A8 m8 c8 e2) ⟨w.heap.size + 1, 0, none⟩ = some (.bool true)) := (hW.1.2.1.other (by omega) _ _ _ _ _).c0; clear kb hP8 hW))
  all_goals (
    go_wp2_with fail
    exact bodyPost_ret (v := .agg #[.bool true, .slice A8 m8 c8, .int .i64 e2]) (by simp [results, Tryd.results20, go_sem, u0, u1, u2]) rfl Hfin.out)

set_option maxHeartbeats 1000000 in
theorem radd_lt_G (x y q : Nat) (A : Option Addr) (n c : Nat) (ds : List Nat) (e1 : Int) (B : Option Addr) (m d : Nat) (es : List Nat) (e2 : Int) (w : World) (hA : Dig w A n c ds) (hB : Dig w B m d es) (ba : D.Bare ds) (bb : D.Bare es) (hn : n ≤ 2600) (hm : m ≤ 2600) (hn0 : n ≠ 0) (hm0 : m ≠ 0)
    (hd : e2 - e1 = (q : Int)) (hq : q ≤ 24000) (hx : Hid (D.val ds = x)) (hy : Hid (D.val es * 2 ^ q = y)) (ho : x < y) :
    Calls Tryd.prog 20 #[.agg #[.bool false, .slice A n c, .int .i64 e1], .agg #[.bool true, .slice B m d, .int .i64 e2]] w (NTold w ⟨true, y - x, e1⟩ 100001) := by
  have h0 : HS3 w w.heap.size false A n c ds e1 (w.heap.size + 1) true B m d es e2 (w.heap.size + 1 + 1) _ := HN.start3 w false A n c ds e1 true B m d es e2 hA hB
  have K0 := Lib.hid (h0.below (below_drew _)).cells
  have HP1 : Hid (∀ u, CellsS w w.heap.size false A n c ds e1 (w.heap.size + 1) true B m d es e2 (w.heap.size + 1 + 1) u → Calls Tryd.prog 44 #[.slice A n c, .int .i64 0] u fun e w' => ∃ (A6 : Option Addr) (m6 c6 : Nat) (ps : List Nat), e = .returned (.slice A6 m6 c6) ∧ m6 ≤ 100000 ∧ CellsS w w.heap.size false A n c ds e1 (w.heap.size + 1) true B m d es e2 (w.heap.size + 1 + 1) w' ∧ Hid (Dig w' A6 m6 c6 ps ∧ D.Bare ps ∧ D.val ps = x ∧ Below u.heap.size u w')) := fun u hu => by
    have h := hu.2.2.2.2.2.2.out
    have this := rshl_any A n c ds 0 u h.1.2.2.1 ba (by omega) (by omega)
    rw [show ((0 : Nat) : Int) = 0 from rfl, Nat.pow_zero, Nat.mul_one] at this
    rw [hx.out] at this
    refine this.mono ?_
    rintro e w' ⟨A6, m6, c6, ps, rfl, q1, q2, q3, q4, q5⟩
    exact ⟨A6, m6, c6, ps, rfl, q1, (h.below q5).cells, q2, q3, q4, q5⟩
  have HP2 : Hid (∀ u, CellsS w w.heap.size false A n c ds e1 (w.heap.size + 1) true B m d es e2 (w.heap.size + 1 + 1) u → Calls Tryd.prog 44 #[.slice B m d, .int .i64 (q : Int)] u fun e w' => ∃ (A6 : Option Addr) (m6 c6 : Nat) (ps : List Nat), e = .returned (.slice A6 m6 c6) ∧ m6 ≤ 100000 ∧ CellsS w w.heap.size false A n c ds e1 (w.heap.size + 1) true B m d es e2 (w.heap.size + 1 + 1) w' ∧ Hid (Dig w' A6 m6 c6 ps ∧ D.Bare ps ∧ D.val ps = y ∧ Below u.heap.size u w')) := fun u hu => by
    have h := hu.2.2.2.2.2.2.out
    have this := rshl_any B m d es q u h.1.2.2.2.1 bb (by omega) (by omega)
    rw [hy.out] at this
    refine this.mono ?_
    rintro e w' ⟨A6, m6, c6, ps, rfl, q1, q2, q3, q4, q5⟩
    exact ⟨A6, m6, c6, ps, rfl, q1, (h.below q5).cells, q2, q3, q4, q5⟩
  have hwq : IntKind.i64.wrap (q : Int) = (q : Int) := by rw [IntKind.wrap_i64]; omega
  have hw0 : IntKind.i64.wrap 0 = 0 := by decide
  have c1 : ((n : Int) == 0) = false := beq_no (by omega)
  have c2 : ((m : Int) == 0) = false := beq_no (by omega)
  have x1 := h0.1.1.c1
  have x2 := h0.1.1.c2
  have y1 := h0.1.2.1.c1
  have y2 := h0.1.2.1.c2
  have b1 : decide (e2 < e1) = false := decide_eq_false (by omega)
  clear hA hB ba bb hx hy h0 hn0 hm0
  go_enter Tryd.func20, Tryd.ntmps20
  go_wp2_with fail
  go_region_held3 (fun w' => w'.cell? ⟨w.heap.size, 0, none⟩ = some (.bool false) ∧ w'.cell? ⟨w.heap.size, 1, none⟩ = some (.slice A n c) ∧ w'.cell? ⟨w.heap.size, 2, none⟩ = some (.int .i64 e1) ∧ w'.cell? ⟨w.heap.size + 1, 0, none⟩ = some (.bool true) ∧ w'.cell? ⟨w.heap.size + 1, 1, none⟩ = some (.slice B m d) ∧ w'.cell? ⟨w.heap.size + 1, 2, none⟩ = some (.int .i64 e2) ∧ Hid (HS3 w w.heap.size false A n c ds e1 (w.heap.size + 1) true B m d es e2 (w.heap.size + 1 + 1) w'))
    (first | (with_reducible exact K0.out) | (with_reducible assumption))
    (first | (go_at_call 44; (with_reducible refine (HP1.out _ (by first | (with_reducible exact K0.out) | (with_reducible assumption))).mono ?_); rintro e w1 ⟨A6, m6, c6, ps, rfl, hm6, hY, hP6⟩) | (go_at_call 44; (with_reducible refine (HP2.out _ (by first | (with_reducible exact K0.out) | (with_reducible assumption))).mono ?_); rintro e w2 ⟨A7, m7, c7, qs, rfl, hm7, hZ, hP7⟩))
  have G1 := hP6.out.1.below hP7.out.2.2.2
  have G2 := hP7.out.1
  have HZ := Lib.hid hZ.2.2.2.2.2.2.out
  have HB := Lib.hid (And.intro hP6.out.2.1 (And.intro hP6.out.2.2.1 (And.intro hP7.out.2.1 hP7.out.2.2.1)))
  have Z0 := Lib.hid (HZ.out.below (below_drew _)).cells
  have HC : Hid (∀ u, Dig u A6 m6 c6 ps → Dig u A7 m7 c7 qs → CellsS w w.heap.size false A n c ds e1 (w.heap.size + 1) true B m d es e2 (w.heap.size + 1 + 1) u → Calls Tryd.prog 47 #[.slice A7 m7 c7, .slice A6 m6 c6] u fun e w' => ∃ (A8 : Option Addr) (m8 c8 : Nat) (rs : List Nat), e = .returned (.slice A8 m8 c8) ∧ m8 ≤ 100001 ∧ CellsS w w.heap.size false A n c ds e1 (w.heap.size + 1) true B m d es e2 (w.heap.size + 1 + 1) w' ∧ Hid (Dig w' A8 m8 c8 rs ∧ D.Bare rs ∧ D.val rs = y - x)) := fun u d1 d2 hu => by
    have h := hu.2.2.2.2.2.2.out
    refine (rsub_any A7 m7 c7 qs A6 m6 c6 ps u d2 d1 HB.out.1 (by rw [HB.out.2.1, HB.out.2.2.2]; omega) (by omega) (by omega)).mono ?_
    rintro e w' ⟨A8, m8, c8, rs, rfl, q1, q2, q3, q4, q5⟩
    exact ⟨A8, m8, c8, rs, rfl, by omega, (h.below q5).cells, q2, q3, by rw [q4, HB.out.2.1, HB.out.2.2.2]⟩
  obtain ⟨z, hz⟩ : ∃ z, cmpZ x y = z := ⟨_, rfl⟩
  have HR := rcmp_any A6 m6 c6 ps A7 m7 c7 qs w2 G1 G2 HB.out.1 HB.out.2.2.1 (by omega) (by omega)
  rw [HB.out.2.1, HB.out.2.2.2, hz] at HR
  have HR := Lib.hid HR
  have b3 : decide (0 ≤ z) = false := by
    rw [← hz]
    rw [cmpZ_lt ho]; rfl
  have G1h := Lib.hid G1
  have G2h := Lib.hid G2
  clear hz
  clear K0 HP1 HP2 hY hP6 hP7 c1 c2 x1 x2 y1 y2 b1 G1 G2
  obtain ⟨x0, x1, x2, y0, y1, y2, _⟩ := hZ
  go_wp2_with fail
  refine HR.out.mono ?_
  rintro e w3 ⟨rfl, nq, rfl⟩
  have Hq := Lib.hid (HZ.out.below (below_drewN (Below.refl _ _) nq))
  have Zq := Lib.hid (HZ.out.below (below_drewN (Below.refl _ _) (nq + 1))).cells
  have Zr := Lib.hid (Hq.out.below (below_drew _)).cells
  have G1q := Lib.hid (G1h.out.drewN (nq + 1))
  have G2q := Lib.hid (G2h.out.drewN (nq + 1))
  obtain ⟨v0, v1, v2, s0, s1, s2, _⟩ := Hq.out.cells
  clear x0 x1 x2 y0 y1 y2 HR HZ Z0
  go_wp2_with fail
  go_region_held3 (fun w' => w'.cell? ⟨w.heap.size + 1, 0, none⟩ = some (.bool true))
    (first | (with_reducible exact Zq.out.2.2.2.1) | (with_reducible exact Zr.out.2.2.2.1) | (with_reducible exact Kp.out) | (with_reducible exact hX.2.2.2.1))
    ((go_at_call 47; (with_reducible refine (HC.out _ G1q.out G2q.out Zq.out).mono ?_); rintro e w9 ⟨A8, m8, c8, rs, rfl, hm8, hX, hP8⟩; have kb := hX.2.2.2.2.2.2.out.2; have u0 := kb.c0; have u1 := kb.c1; have u2 := kb.c2; have uf := kb.fz; have Hfin : Hid (NTold w ⟨true, y - x, e1⟩ 100001 (.returned (.agg #[.bool true, .slice A8 m8 c8, .int .i64 e1])) (World.put w9 (w.heap.size + 1 + 1) true A8 m8 c8 e1)) := ⟨A8, m8, c8, rs, rfl, hm8, kb.dig hP8.out.1 _ _ _ _ _, hP8.out.2.1, hP8.out.2.2, below_put hX.2.2.2.2.2.2.out.1.2.2.2.2 (by omega) _ _ _ _ _⟩; have hW := hX.2.2.2.2.2.2.out; have Kp : Hid (World.cell? (World.put w9 (w.heap.size + 1 + 1) true A8 m8 c8 e1) ⟨w.heap.size + 1, 0, none⟩ = some (.bool true)) := (hW.1.2.1.other (by omega) _ _ _ _ _).c0; clear kb hP8 hW))
  all_goals (
    go_wp2_with fail
    exact bodyPost_ret (v := .agg #[.bool true, .slice A8 m8 c8, .int .i64 e1]) (by simp [results, Tryd.results20, go_sem, u0, u1, u2]) rfl Hfin.out)

end Go.Proofs.YtafgooiakmmfkaaDoor
/- The document's numbers: planimeterref05.Cmp of two that aren't below 0, the second one above it. -/
namespace Go.Proofs.YtafgooiakmmfkaaDoor
open Go.RowKit

section
variable {w : World} {b t : Nat} {g : Bool} {A : Option Addr} {n c : Nat} {e : Int}
theorem neg_heap (w : World) (b : Nat) (v : Value) (k : Nat) (hk : k ≠ b) : (w.setCell ⟨b, 0, none⟩ v).heap[k]? = w.heap[k]? := Below.heap_setCell _ _ _ _ hk
theorem neg_size (w : World) (b : Nat) (v : Value) : (w.setCell ⟨b, 0, none⟩ v).heap.size = w.heap.size := by simp [World.setCell]
theorem Bd.neg_ (h : Bd w b t g A n c e) (g' : Bool) : Bd (w.setCell ⟨b, 0, none⟩ (.bool g')) b t g' A n c e := by
  unfold Bd at h ⊢
  simp [World.setCell, Array.getElem?_modify, h]
theorem Bd.neg_other (h : Bd w b t g A n c e) {b' : Nat} (hb : b ≠ b') (v : Value) : Bd (w.setCell ⟨b', 0, none⟩ v) b t g A n c e := by
  unfold Bd; rw [neg_heap _ _ _ _ hb]; exact h
theorem Bd.neg_dig (h : Bd w b t g A n c e) {A1 : Option Addr} {n1 c1 : Nat} {ds : List Nat} (hA : Dig w A1 n1 c1 ds) (v : Value) : Dig (w.setCell ⟨b, 0, none⟩ v) A1 n1 c1 ds :=
  ⟨⟨hA.1.1, hA.1.2.1, fun hn => by
    obtain ⟨k, o, ek, hk, hc⟩ := hA.at_ hn
    have hne : k ≠ b := by
      rintro rfl
      have := h.not (hc 0 hn)
      cases this
    exact ⟨k, o, ek, by rw [neg_size]; exact hk, fun j hj => by rw [World.cell?_of_block (w := w) (neg_heap w b v k hne)]; exact hc j hj⟩⟩, hA.2⟩
end

theorem sz_both {V U q : Nat} {e1 e2 : Int} (h1 : -1073741824 ≤ e2) (h2 : e1 ≤ 1073741824) (hq : e1 - e2 = (q : Int)) : cmpZ (sz V e1) (sz U e2) = cmpZ (V * 2 ^ q) U := by
  have hh : held e1 = held e2 + q := by rw [held_id (by omega) h2, held_id h1 (by omega)]; omega
  rw [sz_shift hh]
  unfold sz
  exact cmpZ_times (Nat.two_pow_pos _)
theorem cmpZ_anti (x y : Nat) : cmpZ y x = - cmpZ x y := by
  rcases Nat.lt_trichotomy x y with h | h | h
  · rw [cmpZ_gt h, cmpZ_lt h]; rfl
  · rw [cmpZ_eq h, cmpZ_eq h.symm]; rfl
  · rw [cmpZ_lt h, cmpZ_gt h]
theorem sgD_ge {x y : Nat} (h : y ≤ x) : sgD false (x - y) = cmpZ x y := by
  unfold sgD
  by_cases he : x = y
  · rw [if_pos (by omega), cmpZ_eq he]
  · rw [if_neg (by omega), cmpZ_gt (by omega)]; rfl
theorem sgD_lt {x y : Nat} (h : x < y) : sgD true (y - x) = cmpZ x y := by
  unfold sgD
  rw [if_neg (by omega), cmpZ_lt h]; rfl

/-- One less another: its sign tells the order. -/
theorem radd_less (v : Int) (A : Option Addr) (n c : Nat) (ds : List Nat) (e1 : Int) (B : Option Addr) (m d : Nat) (es : List Nat) (e2 : Int) (w : World) (hA : Dig w A n c ds) (hB : Dig w B m d es) (ba : D.Bare ds) (bb : D.Bare es) (hn : n ≤ 2600) (hm : m ≤ 2600) (hn0 : n ≠ 0) (hm0 : m ≠ 0)
    (h1 : -1073741824 ≤ e1) (h2 : e1 ≤ 1073741824) (h3 : -1073741824 ≤ e2) (h4 : e2 ≤ 1073741824) (h5 : e1 ≤ e2 + 24000) (h6 : e2 ≤ e1 + 24000) (hv : cmpZ (sz (D.val ds) e1) (sz (D.val es) e2) = v) :
    Calls Tryd.prog 20 #[.agg #[.bool false, .slice A n c, .int .i64 e1], .agg #[.bool true, .slice B m d, .int .i64 e2]] w fun e w' => ∃ (o : Dy), NTold w o 100001 e w' ∧ sgD o.neg o.V = v := by
  by_cases hl : e2 < e1
  · obtain ⟨q, hq⟩ : ∃ q : Nat, e1 - e2 = (q : Int) := ⟨(e1 - e2).toNat, by omega⟩
    rw [sz_both h3 h2 hq] at hv
    obtain ⟨x, hx⟩ : ∃ x, D.val ds * 2 ^ q = x := ⟨_, rfl⟩
    obtain ⟨y, hy⟩ : ∃ y, D.val es = y := ⟨_, rfl⟩
    rw [hx, hy] at hv
    rcases Nat.lt_or_ge x y with ho | ho
    · refine (radd_lt_L x y q A n c ds e1 B m d es e2 w hA hB ba bb hn hm hn0 hm0 hq (by omega) hl hx hy ho).mono fun e w' h => ⟨_, h, by rw [← hv]; exact sgD_lt ho⟩
    · refine (radd_ge_L x y q A n c ds e1 B m d es e2 w hA hB ba bb hn hm hn0 hm0 hq (by omega) hl hx hy ho).mono fun e w' h => ⟨_, h, by rw [← hv]; exact sgD_ge ho⟩
  · obtain ⟨q, hq⟩ : ∃ q : Nat, e2 - e1 = (q : Int) := ⟨(e2 - e1).toNat, by omega⟩
    have hv2 : cmpZ (D.val ds) (D.val es * 2 ^ q) = v := by
      rw [cmpZ_anti, sz_both h1 h4 hq] at hv
      rw [cmpZ_anti]; exact hv
    obtain ⟨x, hx⟩ : ∃ x, D.val ds = x := ⟨_, rfl⟩
    obtain ⟨y, hy⟩ : ∃ y, D.val es * 2 ^ q = y := ⟨_, rfl⟩
    rw [hx, hy] at hv2
    rcases Nat.lt_or_ge x y with ho | ho
    · refine (radd_lt_G x y q A n c ds e1 B m d es e2 w hA hB ba bb hn hm hn0 hm0 hq (by omega) hx hy ho).mono fun e w' h => ⟨_, h, by rw [← hv2]; exact sgD_lt ho⟩
    · refine (radd_ge_G x y q A n c ds e1 B m d es e2 w hA hB ba bb hn hm hn0 hm0 hq (by omega) hx hy ho).mono fun e w' h => ⟨_, h, by rw [← hv2]; exact sgD_ge ho⟩

set_option maxHeartbeats 2000000 in
theorem rncmp_l (v : Int) (A : Option Addr) (n c : Nat) (ds : List Nat) (e1 : Int) (B : Option Addr) (m d : Nat) (es : List Nat) (e2 : Int) (w : World) (hA : Dig w A n c ds) (hB : Dig w B m d es) (ba : D.Bare ds) (bb : D.Bare es) (hn : n ≤ 1450) (hm : m ≤ 1450) (hU : D.val es ≠ 0)
    (h1 : -1073741824 ≤ e1) (h2 : e1 ≤ 1073741824) (h3 : -1073741824 ≤ e2) (h4 : e2 ≤ 1073741824) (hv : Hid (cmpZ (sz (D.val ds) e1) (sz (D.val es) e2) = v)) :
    Calls Tryd.prog 10 #[.agg #[.bool false, .slice A n c, .int .i64 e1], .agg #[.bool false, .slice B m d, .int .i64 e2]] w fun e w' => e = .returned (.int .i64 v) ∧ Below w.heap.size w w' := by
  obtain ⟨s1, hs1⟩ : ∃ s, sgD false (D.val ds) = s := ⟨_, rfl⟩
  have hs2 : sgD false (D.val es) = 1 := by unfold sgD; rw [if_neg hU]; rfl
  have H0 := Lib.hid ((HN.start w false A n c ds e1 false B m d es e2 hA hB).below (below_drew _))
  have HS1 : Hid (∀ u, CellsN w w.heap.size false A n c ds e1 (w.heap.size + 1) false B m d es e2 u → Calls Tryd.prog 37 #[.agg #[.bool false, .slice A n c, .int .i64 e1]] u fun e w' => e = .returned (.int .i64 s1) ∧ CellsN w w.heap.size false A n c ds e1 (w.heap.size + 1) false B m d es e2 w') := fun u hu => by
    have h := hu.2.2.2.2.2.2.out
    refine (rsign_l s1 false A n c ds e1 u h.2.2.1 ba hs1).mono ?_
    rintro e w' ⟨rfl, hb⟩
    exact ⟨rfl, (h.below hb).cells⟩
  have HS2 : Hid (∀ u, CellsN w w.heap.size false A n c ds e1 (w.heap.size + 1) false B m d es e2 u → Calls Tryd.prog 37 #[.agg #[.bool false, .slice B m d, .int .i64 e2]] u fun e w' => e = .returned (.int .i64 1) ∧ CellsN w w.heap.size false A n c ds e1 (w.heap.size + 1) false B m d es e2 w') := fun u hu => by
    have h := hu.2.2.2.2.2.2.out
    refine (rsign_l 1 false B m d es e2 u h.2.2.2.1 bb hs2).mono ?_
    rintro e w' ⟨rfl, hb⟩
    exact ⟨rfl, (h.below hb).cells⟩
  have hz := dnil_iff hA ba
  have hz2 := dnil_iff hB bb
  have lt1 := D.val_lt hA.words
  have lt2 := D.val_lt hB.words
  rw [hA.len, D.pw_two] at lt1
  rw [hB.len, D.pw_two] at lt2
  have bl1 := blen_le_iff.2 lt1
  have bl2 := blen_le_iff.2 lt2
  have hv' := hv.out
  have HBA := Lib.hid ba
  have HBB := Lib.hid bb
  clear hA hB ba bb lt1 lt2 hs2 hv
  by_cases hV : D.val ds = 0
  · obtain rfl : s1 = 0 := by rw [← hs1, hV]; rfl
    obtain rfl : v = -1 := by
      rw [← hv', hV, sz_zero, cmpZ_lt (sz_pos e2 hU)]
    clear hs1 hv' hz hz2 bl1 bl2 hV hU
    go_enter Tryd.func10, Tryd.ntmps10
    go_wp2_with fail
    go_region_held3 (fun w' => w'.cell? ⟨w.heap.size, 0, none⟩ = some (.bool false) ∧ w'.cell? ⟨w.heap.size, 1, none⟩ = some (.slice A n c) ∧ w'.cell? ⟨w.heap.size, 2, none⟩ = some (.int .i64 e1) ∧ w'.cell? ⟨w.heap.size + 1, 0, none⟩ = some (.bool false) ∧ w'.cell? ⟨w.heap.size + 1, 1, none⟩ = some (.slice B m d) ∧ w'.cell? ⟨w.heap.size + 1, 2, none⟩ = some (.int .i64 e2) ∧ Hid (HN w w.heap.size false A n c ds e1 (w.heap.size + 1) false B m d es e2 w'))
      (first | (with_reducible exact H0.out.cells) | (with_reducible assumption))
      (first | (go_at_call 37; (with_reducible refine (HS1.out _ (by with_reducible assumption)).mono ?_); rintro e w1 ⟨rfl, hY⟩) | (go_at_call 37; (with_reducible refine (HS2.out _ (by with_reducible assumption)).mono ?_); rintro e w2 ⟨rfl, hZ⟩))
    have HF := Lib.hid hZ.2.2.2.2.2.2.out.2.2.2.2
    clear hY hZ HS1 HS2 H0
    go_wp2_with fail
    go_ret
    exact ⟨rfl, HF.out⟩
  · obtain rfl : s1 = 1 := by rw [← hs1]; unfold sgD; rw [if_neg hV]; rfl
    have hn0 : n ≠ 0 := fun h => hV (hz.1 h)
    have hm0 : m ≠ 0 := fun h => hU (hz2.1 h)
    have B1 := blen_pos hV
    have B2 := blen_pos hU
    obtain ⟨t1, ht1⟩ : ∃ t, rtop (D.val ds) e1 = t := ⟨_, rfl⟩
    obtain ⟨t2, ht2⟩ : ∃ t, rtop (D.val es) e2 = t := ⟨_, rfl⟩
    have HT1 : Hid (∀ u, CellsN w w.heap.size false A n c ds e1 (w.heap.size + 1) false B m d es e2 u → Calls Tryd.prog 38 #[.agg #[.bool false, .slice A n c, .int .i64 e1]] u fun e w' => e = .returned (.int .i64 t1) ∧ CellsN w w.heap.size false A n c ds e1 (w.heap.size + 1) false B m d es e2 w') := fun u hu => by
      have h := hu.2.2.2.2.2.2.out
      refine (rtop_l t1 false A n c ds e1 u h.2.2.1 HBA.out (by omega) (by omega) (by omega) ht1).mono ?_
      rintro e w' ⟨rfl, hb⟩
      exact ⟨rfl, (h.below hb).cells⟩
    have HT2 : Hid (∀ u, CellsN w w.heap.size false A n c ds e1 (w.heap.size + 1) false B m d es e2 u → Calls Tryd.prog 38 #[.agg #[.bool false, .slice B m d, .int .i64 e2]] u fun e w' => e = .returned (.int .i64 t2) ∧ CellsN w w.heap.size false A n c ds e1 (w.heap.size + 1) false B m d es e2 w') := fun u hu => by
      have h := hu.2.2.2.2.2.2.out
      refine (rtop_l t2 false B m d es e2 u h.2.2.2.1 HBB.out (by omega) (by omega) (by omega) ht2).mono ?_
      rintro e w' ⟨rfl, hb⟩
      exact ⟨rfl, (h.below hb).cells⟩
    have htt : t1 ≠ t2 → cmpI t1 t2 = v := fun h => by
      have e1' : topD (D.val ds) e1 = t1 := by unfold topD; rw [held_id h1 h2]; exact ht1
      have e2' : topD (D.val es) e2 = t2 := by unfold topD; rw [held_id h3 h4]; exact ht2
      have := cmp_tops (e := e1) (f := e2) hV hU (by rw [e1', e2']; exact h)
      rw [e1', e2'] at this
      rw [this, hv']
    have hnear : t1 = t2 → e1 ≤ e2 + 24000 ∧ e2 ≤ e1 + 24000 := fun h => by
      unfold rtop at ht1 ht2
      omega
    have Hv := Lib.hid hv'
    clear hs1 hv' hz hz2 hV hU ht1 ht2
    go_enter Tryd.func10, Tryd.ntmps10
    go_wp2_with fail
    go_region_held3 (fun w' => w'.cell? ⟨w.heap.size, 0, none⟩ = some (.bool false) ∧ w'.cell? ⟨w.heap.size, 1, none⟩ = some (.slice A n c) ∧ w'.cell? ⟨w.heap.size, 2, none⟩ = some (.int .i64 e1) ∧ w'.cell? ⟨w.heap.size + 1, 0, none⟩ = some (.bool false) ∧ w'.cell? ⟨w.heap.size + 1, 1, none⟩ = some (.slice B m d) ∧ w'.cell? ⟨w.heap.size + 1, 2, none⟩ = some (.int .i64 e2) ∧ Hid (HN w w.heap.size false A n c ds e1 (w.heap.size + 1) false B m d es e2 w'))
      (first | (with_reducible exact H0.out.cells) | (with_reducible assumption))
      (first | (go_at_call 37; (with_reducible refine (HS1.out _ (by with_reducible assumption)).mono ?_); rintro e w1 ⟨rfl, hY⟩) | (go_at_call 37; (with_reducible refine (HS2.out _ (by with_reducible assumption)).mono ?_); rintro e w2 ⟨rfl, hZ⟩))
    have K0 := Lib.hid (hZ.2.2.2.2.2.2.out.below (below_drew _)).cells
    clear hY hZ HS1 HS2 H0
    go_wp2_with fail
    go_region_held3 (fun w' => w'.cell? ⟨w.heap.size, 0, none⟩ = some (.bool false) ∧ w'.cell? ⟨w.heap.size, 1, none⟩ = some (.slice A n c) ∧ w'.cell? ⟨w.heap.size, 2, none⟩ = some (.int .i64 e1) ∧ w'.cell? ⟨w.heap.size + 1, 0, none⟩ = some (.bool false) ∧ w'.cell? ⟨w.heap.size + 1, 1, none⟩ = some (.slice B m d) ∧ w'.cell? ⟨w.heap.size + 1, 2, none⟩ = some (.int .i64 e2) ∧ Hid (HN w w.heap.size false A n c ds e1 (w.heap.size + 1) false B m d es e2 w'))
      (first | (with_reducible exact K0.out) | (with_reducible assumption))
      (first | (go_at_call 38; (with_reducible refine (HT1.out _ (by first | (with_reducible exact K0.out) | (with_reducible assumption))).mono ?_); rintro e w3 ⟨rfl, hY⟩) | (go_at_call 38; (with_reducible refine (HT2.out _ (by with_reducible assumption)).mono ?_); rintro e w4 ⟨rfl, hZ⟩))
    have K4 := Lib.hid (hZ.2.2.2.2.2.2.out.below (below_drew _)).cells
    have H4 := Lib.hid hZ.2.2.2.2.2.2.out
    obtain ⟨x0, x1, x2, y0, y1, y2, _⟩ := hZ
    clear hY K0
    by_cases hq : t1 = t2
    · obtain ⟨hq1, hq2⟩ := hnear hq
      have c1 : (t1 != t2) = false := bne_no hq
      have j1 := H4.out.1.neg_other (b' := w.heap.size + 1) (by omega) (.bool true)
      have j2 := H4.out.2.1.neg_ true
      have j3 := H4.out.2.1.neg_dig H4.out.2.2.1 (.bool true)
      have j4 := H4.out.2.1.neg_dig H4.out.2.2.2.1 (.bool true)
      have j5 := H4.out.2.2.2.2.setCell (p := ⟨w.heap.size + 1, 0, none⟩) (by show w.heap.size ≤ w.heap.size + 1; omega) (.bool true)
      have yf := H4.out.2.1.fz
      have HA := Lib.hid (radd_less v A n c ds e1 B m d es e2 _ j3 j4 HBA.out HBB.out (by omega) (by omega) hn0 hm0 h1 h2 h3 h4 hq1 hq2 Hv.out)
      have HJ := Lib.hid j5
      clear j1 j2 j3 j4 j5 H4 K4 htt hnear hq hq1 hq2 Hv HT1 HT2 HBA HBB bl1 bl2 B1 B2 hn0 hm0
      go_wp2_with fail
      refine HA.out.mono ?_
      rintro e w5 ⟨⟨og, oV, oE⟩, ⟨A5, m5, c5, rs, rfl, hm5, hl5, hd5, hv5, hb5⟩, hs⟩
      have HG := Lib.hid (rsign_l v og A5 m5 c5 rs oE w5 hl5 hd5 (by rw [hv5]; exact hs))
      have HS5 := Lib.hid (HJ.out.trans (hb5.mono HJ.out.size))
      clear hl5 hd5 hv5 hb5 hs HA HJ x0 x1 x2 y0 y1 y2 yf
      go_wp2_with fail
      refine HG.out.mono ?_
      rintro e w6 ⟨rfl, hb6⟩
      have Hfin := Lib.hid (HS5.out.trans (hb6.mono HS5.out.size))
      clear hb6 HS5 HG
      go_wp2
      go_ret
      exact ⟨rfl, Hfin.out⟩
    · have hvv := htt hq
      have c1 : (t1 != t2) = true := bne_yes hq
      clear htt hnear Hv HBA HBB bl1 bl2 B1 B2 hn0 hm0 H4
      rcases Int.lt_or_le t1 t2 with hlt | hge
      · obtain rfl : v = -1 := by rw [← hvv]; exact cmpI_lt hlt
        have b1 : decide (t1 < t2) = true := decide_eq_true hlt
        clear hvv hq hlt
        go_wp2_with fail
        go_region_held3 (fun w' => w'.cell? ⟨w.heap.size, 0, none⟩ = some (.bool false) ∧ w'.cell? ⟨w.heap.size, 1, none⟩ = some (.slice A n c) ∧ w'.cell? ⟨w.heap.size, 2, none⟩ = some (.int .i64 e1) ∧ w'.cell? ⟨w.heap.size + 1, 0, none⟩ = some (.bool false) ∧ w'.cell? ⟨w.heap.size + 1, 1, none⟩ = some (.slice B m d) ∧ w'.cell? ⟨w.heap.size + 1, 2, none⟩ = some (.int .i64 e2) ∧ Hid (HN w w.heap.size false A n c ds e1 (w.heap.size + 1) false B m d es e2 w'))
          (first | (with_reducible exact K4.out) | (with_reducible assumption))
          (first | (go_at_call 38; (with_reducible refine (HT1.out _ (by first | (with_reducible exact K4.out) | (with_reducible assumption))).mono ?_); rintro e w5 ⟨rfl, hY⟩) | (go_at_call 38; (with_reducible refine (HT2.out _ (by with_reducible assumption)).mono ?_); rintro e w6 ⟨rfl, hZ⟩))
        all_goals (
          have HF := Lib.hid hZ.2.2.2.2.2.2.out.2.2.2.2
          clear hY hZ HT1 HT2 K4 x0 x1 x2 y0 y1 y2
          go_wp2_with fail
          go_ret
          exact ⟨rfl, HF.out⟩)
      · obtain rfl : v = 1 := by rw [← hvv]; exact cmpI_gt (by omega)
        have b1 : decide (t1 < t2) = false := decide_eq_false (by omega)
        clear hvv hq hge
        go_wp2_with fail
        go_region_held3 (fun w' => w'.cell? ⟨w.heap.size, 0, none⟩ = some (.bool false) ∧ w'.cell? ⟨w.heap.size, 1, none⟩ = some (.slice A n c) ∧ w'.cell? ⟨w.heap.size, 2, none⟩ = some (.int .i64 e1) ∧ w'.cell? ⟨w.heap.size + 1, 0, none⟩ = some (.bool false) ∧ w'.cell? ⟨w.heap.size + 1, 1, none⟩ = some (.slice B m d) ∧ w'.cell? ⟨w.heap.size + 1, 2, none⟩ = some (.int .i64 e2) ∧ Hid (HN w w.heap.size false A n c ds e1 (w.heap.size + 1) false B m d es e2 w'))
          (first | (with_reducible exact K4.out) | (with_reducible assumption))
          (first | (go_at_call 38; (with_reducible refine (HT1.out _ (by first | (with_reducible exact K4.out) | (with_reducible assumption))).mono ?_); rintro e w5 ⟨rfl, hY⟩) | (go_at_call 38; (with_reducible refine (HT2.out _ (by with_reducible assumption)).mono ?_); rintro e w6 ⟨rfl, hZ⟩))
        all_goals (
          have HF := Lib.hid hZ.2.2.2.2.2.2.out.2.2.2.2
          clear hY hZ HT1 HT2 K4 x0 x1 x2 y0 y1 y2
          go_wp2_with fail
          go_ret
          exact ⟨rfl, HF.out⟩)
end Go.Proofs.YtafgooiakmmfkaaDoor
/- The document's numbers: planimeterref05.Add and Cmp of any two. Written by law_gsum.py and law_gcmp.py. -/
namespace Go.Proofs.YtafgooiakmmfkaaDoor
open Go.RowKit

set_option maxHeartbeats 1000000 in
theorem radd_sumT_L (x y q : Nat) (A : Option Addr) (n c : Nat) (ds : List Nat) (e1 : Int) (B : Option Addr) (m d : Nat) (es : List Nat) (e2 : Int) (w : World) (hA : Dig w A n c ds) (hB : Dig w B m d es) (ba : D.Bare ds) (bb : D.Bare es) (hn : n ≤ 2600) (hm : m ≤ 2600) (hn0 : n ≠ 0) (hm0 : m ≠ 0)
    (hd : e1 - e2 = (q : Int)) (hq : q ≤ 24000) (hl : e2 < e1) (hx : Hid (D.val ds * 2 ^ q = x)) (hy : Hid (D.val es = y)) :
    Calls Tryd.prog 20 #[.agg #[.bool true, .slice A n c, .int .i64 e1], .agg #[.bool true, .slice B m d, .int .i64 e2]] w (NTold w ⟨true, x + y, e2⟩ 100001) := by
  have h0 : HS3 w w.heap.size true A n c ds e1 (w.heap.size + 1) true B m d es e2 (w.heap.size + 1 + 1) _ := HN.start3 w true A n c ds e1 true B m d es e2 hA hB
  have K0 := Lib.hid (h0.below (below_drew _)).cells
  have HP1 : Hid (∀ u, CellsS w w.heap.size true A n c ds e1 (w.heap.size + 1) true B m d es e2 (w.heap.size + 1 + 1) u → Calls Tryd.prog 44 #[.slice A n c, .int .i64 (q : Int)] u fun e w' => ∃ (A6 : Option Addr) (m6 c6 : Nat) (ps : List Nat), e = .returned (.slice A6 m6 c6) ∧ m6 ≤ 100000 ∧ CellsS w w.heap.size true A n c ds e1 (w.heap.size + 1) true B m d es e2 (w.heap.size + 1 + 1) w' ∧ Hid (Dig w' A6 m6 c6 ps ∧ D.Bare ps ∧ D.val ps = x ∧ Below u.heap.size u w')) := fun u hu => by
    have h := hu.2.2.2.2.2.2.out
    have this := rshl_any A n c ds q u h.1.2.2.1 ba (by omega) (by omega)
    rw [hx.out] at this
    refine this.mono ?_
    rintro e w' ⟨A6, m6, c6, ps, rfl, q1, q2, q3, q4, q5⟩
    exact ⟨A6, m6, c6, ps, rfl, q1, (h.below q5).cells, q2, q3, q4, q5⟩
  have HP2 : Hid (∀ u, CellsS w w.heap.size true A n c ds e1 (w.heap.size + 1) true B m d es e2 (w.heap.size + 1 + 1) u → Calls Tryd.prog 44 #[.slice B m d, .int .i64 0] u fun e w' => ∃ (A6 : Option Addr) (m6 c6 : Nat) (ps : List Nat), e = .returned (.slice A6 m6 c6) ∧ m6 ≤ 100000 ∧ CellsS w w.heap.size true A n c ds e1 (w.heap.size + 1) true B m d es e2 (w.heap.size + 1 + 1) w' ∧ Hid (Dig w' A6 m6 c6 ps ∧ D.Bare ps ∧ D.val ps = y ∧ Below u.heap.size u w')) := fun u hu => by
    have h := hu.2.2.2.2.2.2.out
    have this := rshl_any B m d es 0 u h.1.2.2.2.1 bb (by omega) (by omega)
    rw [show ((0 : Nat) : Int) = 0 from rfl, Nat.pow_zero, Nat.mul_one] at this
    rw [hy.out] at this
    refine this.mono ?_
    rintro e w' ⟨A6, m6, c6, ps, rfl, q1, q2, q3, q4, q5⟩
    exact ⟨A6, m6, c6, ps, rfl, q1, (h.below q5).cells, q2, q3, q4, q5⟩
  have hwq : IntKind.i64.wrap (q : Int) = (q : Int) := by rw [IntKind.wrap_i64]; omega
  have hw0 : IntKind.i64.wrap 0 = 0 := by decide
  have c1 : ((n : Int) == 0) = false := beq_no (by omega)
  have c2 : ((m : Int) == 0) = false := beq_no (by omega)
  have x1 := h0.1.1.c1
  have x2 := h0.1.1.c2
  have y1 := h0.1.2.1.c1
  have y2 := h0.1.2.1.c2
  have b1 : decide (e2 < e1) = true := decide_eq_true hl
  clear hA hB ba bb hx hy h0 hl hn0 hm0
  go_enter Tryd.func20, Tryd.ntmps20
  go_wp2_with fail
  go_region_held3 (fun w' => w'.cell? ⟨w.heap.size, 0, none⟩ = some (.bool true) ∧ w'.cell? ⟨w.heap.size, 1, none⟩ = some (.slice A n c) ∧ w'.cell? ⟨w.heap.size, 2, none⟩ = some (.int .i64 e1) ∧ w'.cell? ⟨w.heap.size + 1, 0, none⟩ = some (.bool true) ∧ w'.cell? ⟨w.heap.size + 1, 1, none⟩ = some (.slice B m d) ∧ w'.cell? ⟨w.heap.size + 1, 2, none⟩ = some (.int .i64 e2) ∧ Hid (HS3 w w.heap.size true A n c ds e1 (w.heap.size + 1) true B m d es e2 (w.heap.size + 1 + 1) w'))
    (first | (with_reducible exact K0.out) | (with_reducible assumption))
    (first | (go_at_call 44; (with_reducible refine (HP1.out _ (by first | (with_reducible exact K0.out) | (with_reducible assumption))).mono ?_); rintro e w1 ⟨A6, m6, c6, ps, rfl, hm6, hY, hP6⟩) | (go_at_call 44; (with_reducible refine (HP2.out _ (by first | (with_reducible exact K0.out) | (with_reducible assumption))).mono ?_); rintro e w2 ⟨A7, m7, c7, qs, rfl, hm7, hZ, hP7⟩))
  have G1 := hP6.out.1.below hP7.out.2.2.2
  have G2 := hP7.out.1
  have HZ := Lib.hid hZ.2.2.2.2.2.2.out
  have HB := Lib.hid (And.intro hP6.out.2.1 (And.intro hP6.out.2.2.1 (And.intro hP7.out.2.1 hP7.out.2.2.1)))
  have Z0 := Lib.hid (HZ.out.below (below_drew _)).cells
  have HC : Hid (∀ u, Dig u A6 m6 c6 ps → Dig u A7 m7 c7 qs → CellsS w w.heap.size true A n c ds e1 (w.heap.size + 1) true B m d es e2 (w.heap.size + 1 + 1) u → Calls Tryd.prog 45 #[.slice A6 m6 c6, .slice A7 m7 c7] u fun e w' => ∃ (A8 : Option Addr) (m8 c8 : Nat) (rs : List Nat), e = .returned (.slice A8 m8 c8) ∧ m8 ≤ 100001 ∧ CellsS w w.heap.size true A n c ds e1 (w.heap.size + 1) true B m d es e2 (w.heap.size + 1 + 1) w' ∧ Hid (Dig w' A8 m8 c8 rs ∧ D.Bare rs ∧ D.val rs = x + y)) := fun u d1 d2 hu => by
    have h := hu.2.2.2.2.2.2.out
    refine (radd_any A6 m6 c6 ps A7 m7 c7 qs u d1 d2 HB.out.1 HB.out.2.2.1 (by omega) (by omega)).mono ?_
    rintro e w' ⟨A8, m8, c8, rs, rfl, q1, q2, q3, q4, q5⟩
    exact ⟨A8, m8, c8, rs, rfl, by omega, (h.below q5).cells, q2, q3, by rw [q4, HB.out.2.1, HB.out.2.2.2]⟩
  have G1h := Lib.hid (G1.drew)
  have G2h := Lib.hid (G2.drew)
  clear K0 HP1 HP2 hY hP6 hP7 c1 c2 x1 x2 y1 y2 b1 G1 G2
  obtain ⟨x0, x1, x2, y0, y1, y2, _⟩ := hZ
  go_wp2_with fail
  go_region_held3 (fun w' => w'.cell? ⟨w.heap.size, 0, none⟩ = some (.bool true))
    (first | (with_reducible exact Z0.out.1) | (with_reducible exact Kp.out) | (with_reducible exact hX.1))
    ((go_at_call 45; (with_reducible refine (HC.out _ G1h.out G2h.out Z0.out).mono ?_); rintro e w9 ⟨A8, m8, c8, rs, rfl, hm8, hX, hP8⟩; have kb := hX.2.2.2.2.2.2.out.2; have u0 := kb.c0; have u1 := kb.c1; have u2 := kb.c2; have uf := kb.fz; have Hfin : Hid (NTold w ⟨true, x + y, e2⟩ 100001 (.returned (.agg #[.bool true, .slice A8 m8 c8, .int .i64 e2])) (World.put w9 (w.heap.size + 1 + 1) true A8 m8 c8 e2)) := ⟨A8, m8, c8, rs, rfl, hm8, kb.dig hP8.out.1 _ _ _ _ _, hP8.out.2.1, hP8.out.2.2, below_put hX.2.2.2.2.2.2.out.1.2.2.2.2 (by omega) _ _ _ _ _⟩; have hW := hX.2.2.2.2.2.2.out; have Kp : Hid (World.cell? (World.put w9 (w.heap.size + 1 + 1) true A8 m8 c8 e2) ⟨w.heap.size, 0, none⟩ = some (.bool true)) := (hW.1.1.other (by omega) _ _ _ _ _).c0; clear kb hP8 hW))
  all_goals (
    go_wp2_with fail
    exact bodyPost_ret (v := .agg #[.bool true, .slice A8 m8 c8, .int .i64 e2]) (by simp [results, Tryd.results20, go_sem, u0, u1, u2]) rfl Hfin.out)

set_option maxHeartbeats 1000000 in
theorem radd_sumT_G (x y q : Nat) (A : Option Addr) (n c : Nat) (ds : List Nat) (e1 : Int) (B : Option Addr) (m d : Nat) (es : List Nat) (e2 : Int) (w : World) (hA : Dig w A n c ds) (hB : Dig w B m d es) (ba : D.Bare ds) (bb : D.Bare es) (hn : n ≤ 2600) (hm : m ≤ 2600) (hn0 : n ≠ 0) (hm0 : m ≠ 0)
    (hd : e2 - e1 = (q : Int)) (hq : q ≤ 24000) (hx : Hid (D.val ds = x)) (hy : Hid (D.val es * 2 ^ q = y)) :
    Calls Tryd.prog 20 #[.agg #[.bool true, .slice A n c, .int .i64 e1], .agg #[.bool true, .slice B m d, .int .i64 e2]] w (NTold w ⟨true, x + y, e1⟩ 100001) := by
  have h0 : HS3 w w.heap.size true A n c ds e1 (w.heap.size + 1) true B m d es e2 (w.heap.size + 1 + 1) _ := HN.start3 w true A n c ds e1 true B m d es e2 hA hB
  have K0 := Lib.hid (h0.below (below_drew _)).cells
  have HP1 : Hid (∀ u, CellsS w w.heap.size true A n c ds e1 (w.heap.size + 1) true B m d es e2 (w.heap.size + 1 + 1) u → Calls Tryd.prog 44 #[.slice A n c, .int .i64 0] u fun e w' => ∃ (A6 : Option Addr) (m6 c6 : Nat) (ps : List Nat), e = .returned (.slice A6 m6 c6) ∧ m6 ≤ 100000 ∧ CellsS w w.heap.size true A n c ds e1 (w.heap.size + 1) true B m d es e2 (w.heap.size + 1 + 1) w' ∧ Hid (Dig w' A6 m6 c6 ps ∧ D.Bare ps ∧ D.val ps = x ∧ Below u.heap.size u w')) := fun u hu => by
    have h := hu.2.2.2.2.2.2.out
    have this := rshl_any A n c ds 0 u h.1.2.2.1 ba (by omega) (by omega)
    rw [show ((0 : Nat) : Int) = 0 from rfl, Nat.pow_zero, Nat.mul_one] at this
    rw [hx.out] at this
    refine this.mono ?_
    rintro e w' ⟨A6, m6, c6, ps, rfl, q1, q2, q3, q4, q5⟩
    exact ⟨A6, m6, c6, ps, rfl, q1, (h.below q5).cells, q2, q3, q4, q5⟩
  have HP2 : Hid (∀ u, CellsS w w.heap.size true A n c ds e1 (w.heap.size + 1) true B m d es e2 (w.heap.size + 1 + 1) u → Calls Tryd.prog 44 #[.slice B m d, .int .i64 (q : Int)] u fun e w' => ∃ (A6 : Option Addr) (m6 c6 : Nat) (ps : List Nat), e = .returned (.slice A6 m6 c6) ∧ m6 ≤ 100000 ∧ CellsS w w.heap.size true A n c ds e1 (w.heap.size + 1) true B m d es e2 (w.heap.size + 1 + 1) w' ∧ Hid (Dig w' A6 m6 c6 ps ∧ D.Bare ps ∧ D.val ps = y ∧ Below u.heap.size u w')) := fun u hu => by
    have h := hu.2.2.2.2.2.2.out
    have this := rshl_any B m d es q u h.1.2.2.2.1 bb (by omega) (by omega)
    rw [hy.out] at this
    refine this.mono ?_
    rintro e w' ⟨A6, m6, c6, ps, rfl, q1, q2, q3, q4, q5⟩
    exact ⟨A6, m6, c6, ps, rfl, q1, (h.below q5).cells, q2, q3, q4, q5⟩
  have hwq : IntKind.i64.wrap (q : Int) = (q : Int) := by rw [IntKind.wrap_i64]; omega
  have hw0 : IntKind.i64.wrap 0 = 0 := by decide
  have c1 : ((n : Int) == 0) = false := beq_no (by omega)
  have c2 : ((m : Int) == 0) = false := beq_no (by omega)
  have x1 := h0.1.1.c1
  have x2 := h0.1.1.c2
  have y1 := h0.1.2.1.c1
  have y2 := h0.1.2.1.c2
  have b1 : decide (e2 < e1) = false := decide_eq_false (by omega)
  clear hA hB ba bb hx hy h0 hn0 hm0
  go_enter Tryd.func20, Tryd.ntmps20
  go_wp2_with fail
  go_region_held3 (fun w' => w'.cell? ⟨w.heap.size, 0, none⟩ = some (.bool true) ∧ w'.cell? ⟨w.heap.size, 1, none⟩ = some (.slice A n c) ∧ w'.cell? ⟨w.heap.size, 2, none⟩ = some (.int .i64 e1) ∧ w'.cell? ⟨w.heap.size + 1, 0, none⟩ = some (.bool true) ∧ w'.cell? ⟨w.heap.size + 1, 1, none⟩ = some (.slice B m d) ∧ w'.cell? ⟨w.heap.size + 1, 2, none⟩ = some (.int .i64 e2) ∧ Hid (HS3 w w.heap.size true A n c ds e1 (w.heap.size + 1) true B m d es e2 (w.heap.size + 1 + 1) w'))
    (first | (with_reducible exact K0.out) | (with_reducible assumption))
    (first | (go_at_call 44; (with_reducible refine (HP1.out _ (by first | (with_reducible exact K0.out) | (with_reducible assumption))).mono ?_); rintro e w1 ⟨A6, m6, c6, ps, rfl, hm6, hY, hP6⟩) | (go_at_call 44; (with_reducible refine (HP2.out _ (by first | (with_reducible exact K0.out) | (with_reducible assumption))).mono ?_); rintro e w2 ⟨A7, m7, c7, qs, rfl, hm7, hZ, hP7⟩))
  have G1 := hP6.out.1.below hP7.out.2.2.2
  have G2 := hP7.out.1
  have HZ := Lib.hid hZ.2.2.2.2.2.2.out
  have HB := Lib.hid (And.intro hP6.out.2.1 (And.intro hP6.out.2.2.1 (And.intro hP7.out.2.1 hP7.out.2.2.1)))
  have Z0 := Lib.hid (HZ.out.below (below_drew _)).cells
  have HC : Hid (∀ u, Dig u A6 m6 c6 ps → Dig u A7 m7 c7 qs → CellsS w w.heap.size true A n c ds e1 (w.heap.size + 1) true B m d es e2 (w.heap.size + 1 + 1) u → Calls Tryd.prog 45 #[.slice A6 m6 c6, .slice A7 m7 c7] u fun e w' => ∃ (A8 : Option Addr) (m8 c8 : Nat) (rs : List Nat), e = .returned (.slice A8 m8 c8) ∧ m8 ≤ 100001 ∧ CellsS w w.heap.size true A n c ds e1 (w.heap.size + 1) true B m d es e2 (w.heap.size + 1 + 1) w' ∧ Hid (Dig w' A8 m8 c8 rs ∧ D.Bare rs ∧ D.val rs = x + y)) := fun u d1 d2 hu => by
    have h := hu.2.2.2.2.2.2.out
    refine (radd_any A6 m6 c6 ps A7 m7 c7 qs u d1 d2 HB.out.1 HB.out.2.2.1 (by omega) (by omega)).mono ?_
    rintro e w' ⟨A8, m8, c8, rs, rfl, q1, q2, q3, q4, q5⟩
    exact ⟨A8, m8, c8, rs, rfl, by omega, (h.below q5).cells, q2, q3, by rw [q4, HB.out.2.1, HB.out.2.2.2]⟩
  have G1h := Lib.hid (G1.drew)
  have G2h := Lib.hid (G2.drew)
  clear K0 HP1 HP2 hY hP6 hP7 c1 c2 x1 x2 y1 y2 b1 G1 G2
  obtain ⟨x0, x1, x2, y0, y1, y2, _⟩ := hZ
  go_wp2_with fail
  go_region_held3 (fun w' => w'.cell? ⟨w.heap.size, 0, none⟩ = some (.bool true))
    (first | (with_reducible exact Z0.out.1) | (with_reducible exact Kp.out) | (with_reducible exact hX.1))
    ((go_at_call 45; (with_reducible refine (HC.out _ G1h.out G2h.out Z0.out).mono ?_); rintro e w9 ⟨A8, m8, c8, rs, rfl, hm8, hX, hP8⟩; have kb := hX.2.2.2.2.2.2.out.2; have u0 := kb.c0; have u1 := kb.c1; have u2 := kb.c2; have uf := kb.fz; have Hfin : Hid (NTold w ⟨true, x + y, e1⟩ 100001 (.returned (.agg #[.bool true, .slice A8 m8 c8, .int .i64 e1])) (World.put w9 (w.heap.size + 1 + 1) true A8 m8 c8 e1)) := ⟨A8, m8, c8, rs, rfl, hm8, kb.dig hP8.out.1 _ _ _ _ _, hP8.out.2.1, hP8.out.2.2, below_put hX.2.2.2.2.2.2.out.1.2.2.2.2 (by omega) _ _ _ _ _⟩; have hW := hX.2.2.2.2.2.2.out; have Kp : Hid (World.cell? (World.put w9 (w.heap.size + 1 + 1) true A8 m8 c8 e1) ⟨w.heap.size, 0, none⟩ = some (.bool true)) := (hW.1.1.other (by omega) _ _ _ _ _).c0; clear kb hP8 hW))
  all_goals (
    go_wp2_with fail
    exact bodyPost_ret (v := .agg #[.bool true, .slice A8 m8 c8, .int .i64 e1]) (by simp [results, Tryd.results20, go_sem, u0, u1, u2]) rfl Hfin.out)

set_option maxHeartbeats 1000000 in
theorem radd_geT_L (x y q : Nat) (A : Option Addr) (n c : Nat) (ds : List Nat) (e1 : Int) (B : Option Addr) (m d : Nat) (es : List Nat) (e2 : Int) (w : World) (hA : Dig w A n c ds) (hB : Dig w B m d es) (ba : D.Bare ds) (bb : D.Bare es) (hn : n ≤ 2600) (hm : m ≤ 2600) (hn0 : n ≠ 0) (hm0 : m ≠ 0)
    (hd : e1 - e2 = (q : Int)) (hq : q ≤ 24000) (hl : e2 < e1) (hx : Hid (D.val ds * 2 ^ q = x)) (hy : Hid (D.val es = y)) (ho : y ≤ x) :
    Calls Tryd.prog 20 #[.agg #[.bool true, .slice A n c, .int .i64 e1], .agg #[.bool false, .slice B m d, .int .i64 e2]] w (NTold w ⟨true, x - y, e2⟩ 100001) := by
  have h0 : HS3 w w.heap.size true A n c ds e1 (w.heap.size + 1) false B m d es e2 (w.heap.size + 1 + 1) _ := HN.start3 w true A n c ds e1 false B m d es e2 hA hB
  have K0 := Lib.hid (h0.below (below_drew _)).cells
  have HP1 : Hid (∀ u, CellsS w w.heap.size true A n c ds e1 (w.heap.size + 1) false B m d es e2 (w.heap.size + 1 + 1) u → Calls Tryd.prog 44 #[.slice A n c, .int .i64 (q : Int)] u fun e w' => ∃ (A6 : Option Addr) (m6 c6 : Nat) (ps : List Nat), e = .returned (.slice A6 m6 c6) ∧ m6 ≤ 100000 ∧ CellsS w w.heap.size true A n c ds e1 (w.heap.size + 1) false B m d es e2 (w.heap.size + 1 + 1) w' ∧ Hid (Dig w' A6 m6 c6 ps ∧ D.Bare ps ∧ D.val ps = x ∧ Below u.heap.size u w')) := fun u hu => by
    have h := hu.2.2.2.2.2.2.out
    have this := rshl_any A n c ds q u h.1.2.2.1 ba (by omega) (by omega)
    rw [hx.out] at this
    refine this.mono ?_
    rintro e w' ⟨A6, m6, c6, ps, rfl, q1, q2, q3, q4, q5⟩
    exact ⟨A6, m6, c6, ps, rfl, q1, (h.below q5).cells, q2, q3, q4, q5⟩
  have HP2 : Hid (∀ u, CellsS w w.heap.size true A n c ds e1 (w.heap.size + 1) false B m d es e2 (w.heap.size + 1 + 1) u → Calls Tryd.prog 44 #[.slice B m d, .int .i64 0] u fun e w' => ∃ (A6 : Option Addr) (m6 c6 : Nat) (ps : List Nat), e = .returned (.slice A6 m6 c6) ∧ m6 ≤ 100000 ∧ CellsS w w.heap.size true A n c ds e1 (w.heap.size + 1) false B m d es e2 (w.heap.size + 1 + 1) w' ∧ Hid (Dig w' A6 m6 c6 ps ∧ D.Bare ps ∧ D.val ps = y ∧ Below u.heap.size u w')) := fun u hu => by
    have h := hu.2.2.2.2.2.2.out
    have this := rshl_any B m d es 0 u h.1.2.2.2.1 bb (by omega) (by omega)
    rw [show ((0 : Nat) : Int) = 0 from rfl, Nat.pow_zero, Nat.mul_one] at this
    rw [hy.out] at this
    refine this.mono ?_
    rintro e w' ⟨A6, m6, c6, ps, rfl, q1, q2, q3, q4, q5⟩
    exact ⟨A6, m6, c6, ps, rfl, q1, (h.below q5).cells, q2, q3, q4, q5⟩
  have hwq : IntKind.i64.wrap (q : Int) = (q : Int) := by rw [IntKind.wrap_i64]; omega
  have hw0 : IntKind.i64.wrap 0 = 0 := by decide
  have c1 : ((n : Int) == 0) = false := beq_no (by omega)
  have c2 : ((m : Int) == 0) = false := beq_no (by omega)
  have x1 := h0.1.1.c1
  have x2 := h0.1.1.c2
  have y1 := h0.1.2.1.c1
  have y2 := h0.1.2.1.c2
  have b1 : decide (e2 < e1) = true := decide_eq_true hl
  clear hA hB ba bb hx hy h0 hl hn0 hm0
  go_enter Tryd.func20, Tryd.ntmps20
  go_wp2_with fail
  go_region_held3 (fun w' => w'.cell? ⟨w.heap.size, 0, none⟩ = some (.bool true) ∧ w'.cell? ⟨w.heap.size, 1, none⟩ = some (.slice A n c) ∧ w'.cell? ⟨w.heap.size, 2, none⟩ = some (.int .i64 e1) ∧ w'.cell? ⟨w.heap.size + 1, 0, none⟩ = some (.bool false) ∧ w'.cell? ⟨w.heap.size + 1, 1, none⟩ = some (.slice B m d) ∧ w'.cell? ⟨w.heap.size + 1, 2, none⟩ = some (.int .i64 e2) ∧ Hid (HS3 w w.heap.size true A n c ds e1 (w.heap.size + 1) false B m d es e2 (w.heap.size + 1 + 1) w'))
    (first | (with_reducible exact K0.out) | (with_reducible assumption))
    (first | (go_at_call 44; (with_reducible refine (HP1.out _ (by first | (with_reducible exact K0.out) | (with_reducible assumption))).mono ?_); rintro e w1 ⟨A6, m6, c6, ps, rfl, hm6, hY, hP6⟩) | (go_at_call 44; (with_reducible refine (HP2.out _ (by first | (with_reducible exact K0.out) | (with_reducible assumption))).mono ?_); rintro e w2 ⟨A7, m7, c7, qs, rfl, hm7, hZ, hP7⟩))
  have G1 := hP6.out.1.below hP7.out.2.2.2
  have G2 := hP7.out.1
  have HZ := Lib.hid hZ.2.2.2.2.2.2.out
  have HB := Lib.hid (And.intro hP6.out.2.1 (And.intro hP6.out.2.2.1 (And.intro hP7.out.2.1 hP7.out.2.2.1)))
  have Z0 := Lib.hid (HZ.out.below (below_drew _)).cells
  have HC : Hid (∀ u, Dig u A6 m6 c6 ps → Dig u A7 m7 c7 qs → CellsS w w.heap.size true A n c ds e1 (w.heap.size + 1) false B m d es e2 (w.heap.size + 1 + 1) u → Calls Tryd.prog 47 #[.slice A6 m6 c6, .slice A7 m7 c7] u fun e w' => ∃ (A8 : Option Addr) (m8 c8 : Nat) (rs : List Nat), e = .returned (.slice A8 m8 c8) ∧ m8 ≤ 100001 ∧ CellsS w w.heap.size true A n c ds e1 (w.heap.size + 1) false B m d es e2 (w.heap.size + 1 + 1) w' ∧ Hid (Dig w' A8 m8 c8 rs ∧ D.Bare rs ∧ D.val rs = x - y)) := fun u d1 d2 hu => by
    have h := hu.2.2.2.2.2.2.out
    refine (rsub_any A6 m6 c6 ps A7 m7 c7 qs u d1 d2 HB.out.2.2.1 (by rw [HB.out.2.1, HB.out.2.2.2]; exact ho) (by omega) (by omega)).mono ?_
    rintro e w' ⟨A8, m8, c8, rs, rfl, q1, q2, q3, q4, q5⟩
    exact ⟨A8, m8, c8, rs, rfl, by omega, (h.below q5).cells, q2, q3, by rw [q4, HB.out.2.1, HB.out.2.2.2]⟩
  obtain ⟨z, hz⟩ : ∃ z, cmpZ x y = z := ⟨_, rfl⟩
  have HR := rcmp_any A6 m6 c6 ps A7 m7 c7 qs w2 G1 G2 HB.out.1 HB.out.2.2.1 (by omega) (by omega)
  rw [HB.out.2.1, HB.out.2.2.2, hz] at HR
  have HR := Lib.hid HR
  have b3 : decide (0 ≤ z) = true := by
    rw [← hz]
    exact decide_eq_true (by have := cmpZ_bd x y; by_cases h : y < x; (rw [cmpZ_gt h]; decide); (rw [cmpZ_eq (by omega)]; decide))
  have G1h := Lib.hid G1
  have G2h := Lib.hid G2
  clear hz
  clear K0 HP1 HP2 hY hP6 hP7 c1 c2 x1 x2 y1 y2 b1 G1 G2
  obtain ⟨x0, x1, x2, y0, y1, y2, _⟩ := hZ
  go_wp2_with fail
  refine HR.out.mono ?_
  rintro e w3 ⟨rfl, nq, rfl⟩
  have Hq := Lib.hid (HZ.out.below (below_drewN (Below.refl _ _) nq))
  have Zq := Lib.hid (HZ.out.below (below_drewN (Below.refl _ _) (nq + 1))).cells
  have Zr := Lib.hid (Hq.out.below (below_drew _)).cells
  have G1q := Lib.hid (G1h.out.drewN (nq + 1))
  have G2q := Lib.hid (G2h.out.drewN (nq + 1))
  obtain ⟨v0, v1, v2, s0, s1, s2, _⟩ := Hq.out.cells
  clear x0 x1 x2 y0 y1 y2 HR HZ Z0
  go_wp2_with fail
  go_region_held3 (fun w' => w'.cell? ⟨w.heap.size, 0, none⟩ = some (.bool true))
    (first | (with_reducible exact Zq.out.1) | (with_reducible exact Zr.out.1) | (with_reducible exact Kp.out) | (with_reducible exact hX.1))
    ((go_at_call 47; (with_reducible refine (HC.out _ G1q.out G2q.out Zq.out).mono ?_); rintro e w9 ⟨A8, m8, c8, rs, rfl, hm8, hX, hP8⟩; have kb := hX.2.2.2.2.2.2.out.2; have u0 := kb.c0; have u1 := kb.c1; have u2 := kb.c2; have uf := kb.fz; have Hfin : Hid (NTold w ⟨true, x - y, e2⟩ 100001 (.returned (.agg #[.bool true, .slice A8 m8 c8, .int .i64 e2])) (World.put w9 (w.heap.size + 1 + 1) true A8 m8 c8 e2)) := ⟨A8, m8, c8, rs, rfl, hm8, kb.dig hP8.out.1 _ _ _ _ _, hP8.out.2.1, hP8.out.2.2, below_put hX.2.2.2.2.2.2.out.1.2.2.2.2 (by omega) _ _ _ _ _⟩; have hW := hX.2.2.2.2.2.2.out; have Kp : Hid (World.cell? (World.put w9 (w.heap.size + 1 + 1) true A8 m8 c8 e2) ⟨w.heap.size, 0, none⟩ = some (.bool true)) := (hW.1.1.other (by omega) _ _ _ _ _).c0; clear kb hP8 hW))
  all_goals (
    go_wp2_with fail
    exact bodyPost_ret (v := .agg #[.bool true, .slice A8 m8 c8, .int .i64 e2]) (by simp [results, Tryd.results20, go_sem, u0, u1, u2]) rfl Hfin.out)

set_option maxHeartbeats 1000000 in
theorem radd_geT_G (x y q : Nat) (A : Option Addr) (n c : Nat) (ds : List Nat) (e1 : Int) (B : Option Addr) (m d : Nat) (es : List Nat) (e2 : Int) (w : World) (hA : Dig w A n c ds) (hB : Dig w B m d es) (ba : D.Bare ds) (bb : D.Bare es) (hn : n ≤ 2600) (hm : m ≤ 2600) (hn0 : n ≠ 0) (hm0 : m ≠ 0)
    (hd : e2 - e1 = (q : Int)) (hq : q ≤ 24000) (hx : Hid (D.val ds = x)) (hy : Hid (D.val es * 2 ^ q = y)) (ho : y ≤ x) :
    Calls Tryd.prog 20 #[.agg #[.bool true, .slice A n c, .int .i64 e1], .agg #[.bool false, .slice B m d, .int .i64 e2]] w (NTold w ⟨true, x - y, e1⟩ 100001) := by
  have h0 : HS3 w w.heap.size true A n c ds e1 (w.heap.size + 1) false B m d es e2 (w.heap.size + 1 + 1) _ := HN.start3 w true A n c ds e1 false B m d es e2 hA hB
  have K0 := Lib.hid (h0.below (below_drew _)).cells
  have HP1 : Hid (∀ u, CellsS w w.heap.size true A n c ds e1 (w.heap.size + 1) false B m d es e2 (w.heap.size + 1 + 1) u → Calls Tryd.prog 44 #[.slice A n c, .int .i64 0] u fun e w' => ∃ (A6 : Option Addr) (m6 c6 : Nat) (ps : List Nat), e = .returned (.slice A6 m6 c6) ∧ m6 ≤ 100000 ∧ CellsS w w.heap.size true A n c ds e1 (w.heap.size + 1) false B m d es e2 (w.heap.size + 1 + 1) w' ∧ Hid (Dig w' A6 m6 c6 ps ∧ D.Bare ps ∧ D.val ps = x ∧ Below u.heap.size u w')) := fun u hu => by
    have h := hu.2.2.2.2.2.2.out
    have this := rshl_any A n c ds 0 u h.1.2.2.1 ba (by omega) (by omega)
    rw [show ((0 : Nat) : Int) = 0 from rfl, Nat.pow_zero, Nat.mul_one] at this
    rw [hx.out] at this
    refine this.mono ?_
    rintro e w' ⟨A6, m6, c6, ps, rfl, q1, q2, q3, q4, q5⟩
    exact ⟨A6, m6, c6, ps, rfl, q1, (h.below q5).cells, q2, q3, q4, q5⟩
  have HP2 : Hid (∀ u, CellsS w w.heap.size true A n c ds e1 (w.heap.size + 1) false B m d es e2 (w.heap.size + 1 + 1) u → Calls Tryd.prog 44 #[.slice B m d, .int .i64 (q : Int)] u fun e w' => ∃ (A6 : Option Addr) (m6 c6 : Nat) (ps : List Nat), e = .returned (.slice A6 m6 c6) ∧ m6 ≤ 100000 ∧ CellsS w w.heap.size true A n c ds e1 (w.heap.size + 1) false B m d es e2 (w.heap.size + 1 + 1) w' ∧ Hid (Dig w' A6 m6 c6 ps ∧ D.Bare ps ∧ D.val ps = y ∧ Below u.heap.size u w')) := fun u hu => by
    have h := hu.2.2.2.2.2.2.out
    have this := rshl_any B m d es q u h.1.2.2.2.1 bb (by omega) (by omega)
    rw [hy.out] at this
    refine this.mono ?_
    rintro e w' ⟨A6, m6, c6, ps, rfl, q1, q2, q3, q4, q5⟩
    exact ⟨A6, m6, c6, ps, rfl, q1, (h.below q5).cells, q2, q3, q4, q5⟩
  have hwq : IntKind.i64.wrap (q : Int) = (q : Int) := by rw [IntKind.wrap_i64]; omega
  have hw0 : IntKind.i64.wrap 0 = 0 := by decide
  have c1 : ((n : Int) == 0) = false := beq_no (by omega)
  have c2 : ((m : Int) == 0) = false := beq_no (by omega)
  have x1 := h0.1.1.c1
  have x2 := h0.1.1.c2
  have y1 := h0.1.2.1.c1
  have y2 := h0.1.2.1.c2
  have b1 : decide (e2 < e1) = false := decide_eq_false (by omega)
  clear hA hB ba bb hx hy h0 hn0 hm0
  go_enter Tryd.func20, Tryd.ntmps20
  go_wp2_with fail
  go_region_held3 (fun w' => w'.cell? ⟨w.heap.size, 0, none⟩ = some (.bool true) ∧ w'.cell? ⟨w.heap.size, 1, none⟩ = some (.slice A n c) ∧ w'.cell? ⟨w.heap.size, 2, none⟩ = some (.int .i64 e1) ∧ w'.cell? ⟨w.heap.size + 1, 0, none⟩ = some (.bool false) ∧ w'.cell? ⟨w.heap.size + 1, 1, none⟩ = some (.slice B m d) ∧ w'.cell? ⟨w.heap.size + 1, 2, none⟩ = some (.int .i64 e2) ∧ Hid (HS3 w w.heap.size true A n c ds e1 (w.heap.size + 1) false B m d es e2 (w.heap.size + 1 + 1) w'))
    (first | (with_reducible exact K0.out) | (with_reducible assumption))
    (first | (go_at_call 44; (with_reducible refine (HP1.out _ (by first | (with_reducible exact K0.out) | (with_reducible assumption))).mono ?_); rintro e w1 ⟨A6, m6, c6, ps, rfl, hm6, hY, hP6⟩) | (go_at_call 44; (with_reducible refine (HP2.out _ (by first | (with_reducible exact K0.out) | (with_reducible assumption))).mono ?_); rintro e w2 ⟨A7, m7, c7, qs, rfl, hm7, hZ, hP7⟩))
  have G1 := hP6.out.1.below hP7.out.2.2.2
  have G2 := hP7.out.1
  have HZ := Lib.hid hZ.2.2.2.2.2.2.out
  have HB := Lib.hid (And.intro hP6.out.2.1 (And.intro hP6.out.2.2.1 (And.intro hP7.out.2.1 hP7.out.2.2.1)))
  have Z0 := Lib.hid (HZ.out.below (below_drew _)).cells
  have HC : Hid (∀ u, Dig u A6 m6 c6 ps → Dig u A7 m7 c7 qs → CellsS w w.heap.size true A n c ds e1 (w.heap.size + 1) false B m d es e2 (w.heap.size + 1 + 1) u → Calls Tryd.prog 47 #[.slice A6 m6 c6, .slice A7 m7 c7] u fun e w' => ∃ (A8 : Option Addr) (m8 c8 : Nat) (rs : List Nat), e = .returned (.slice A8 m8 c8) ∧ m8 ≤ 100001 ∧ CellsS w w.heap.size true A n c ds e1 (w.heap.size + 1) false B m d es e2 (w.heap.size + 1 + 1) w' ∧ Hid (Dig w' A8 m8 c8 rs ∧ D.Bare rs ∧ D.val rs = x - y)) := fun u d1 d2 hu => by
    have h := hu.2.2.2.2.2.2.out
    refine (rsub_any A6 m6 c6 ps A7 m7 c7 qs u d1 d2 HB.out.2.2.1 (by rw [HB.out.2.1, HB.out.2.2.2]; exact ho) (by omega) (by omega)).mono ?_
    rintro e w' ⟨A8, m8, c8, rs, rfl, q1, q2, q3, q4, q5⟩
    exact ⟨A8, m8, c8, rs, rfl, by omega, (h.below q5).cells, q2, q3, by rw [q4, HB.out.2.1, HB.out.2.2.2]⟩
  obtain ⟨z, hz⟩ : ∃ z, cmpZ x y = z := ⟨_, rfl⟩
  have HR := rcmp_any A6 m6 c6 ps A7 m7 c7 qs w2 G1 G2 HB.out.1 HB.out.2.2.1 (by omega) (by omega)
  rw [HB.out.2.1, HB.out.2.2.2, hz] at HR
  have HR := Lib.hid HR
  have b3 : decide (0 ≤ z) = true := by
    rw [← hz]
    exact decide_eq_true (by have := cmpZ_bd x y; by_cases h : y < x; (rw [cmpZ_gt h]; decide); (rw [cmpZ_eq (by omega)]; decide))
  have G1h := Lib.hid G1
  have G2h := Lib.hid G2
  clear hz
  clear K0 HP1 HP2 hY hP6 hP7 c1 c2 x1 x2 y1 y2 b1 G1 G2
  obtain ⟨x0, x1, x2, y0, y1, y2, _⟩ := hZ
  go_wp2_with fail
  refine HR.out.mono ?_
  rintro e w3 ⟨rfl, nq, rfl⟩
  have Hq := Lib.hid (HZ.out.below (below_drewN (Below.refl _ _) nq))
  have Zq := Lib.hid (HZ.out.below (below_drewN (Below.refl _ _) (nq + 1))).cells
  have Zr := Lib.hid (Hq.out.below (below_drew _)).cells
  have G1q := Lib.hid (G1h.out.drewN (nq + 1))
  have G2q := Lib.hid (G2h.out.drewN (nq + 1))
  obtain ⟨v0, v1, v2, s0, s1, s2, _⟩ := Hq.out.cells
  clear x0 x1 x2 y0 y1 y2 HR HZ Z0
  go_wp2_with fail
  go_region_held3 (fun w' => w'.cell? ⟨w.heap.size, 0, none⟩ = some (.bool true))
    (first | (with_reducible exact Zq.out.1) | (with_reducible exact Zr.out.1) | (with_reducible exact Kp.out) | (with_reducible exact hX.1))
    ((go_at_call 47; (with_reducible refine (HC.out _ G1q.out G2q.out Zq.out).mono ?_); rintro e w9 ⟨A8, m8, c8, rs, rfl, hm8, hX, hP8⟩; have kb := hX.2.2.2.2.2.2.out.2; have u0 := kb.c0; have u1 := kb.c1; have u2 := kb.c2; have uf := kb.fz; have Hfin : Hid (NTold w ⟨true, x - y, e1⟩ 100001 (.returned (.agg #[.bool true, .slice A8 m8 c8, .int .i64 e1])) (World.put w9 (w.heap.size + 1 + 1) true A8 m8 c8 e1)) := ⟨A8, m8, c8, rs, rfl, hm8, kb.dig hP8.out.1 _ _ _ _ _, hP8.out.2.1, hP8.out.2.2, below_put hX.2.2.2.2.2.2.out.1.2.2.2.2 (by omega) _ _ _ _ _⟩; have hW := hX.2.2.2.2.2.2.out; have Kp : Hid (World.cell? (World.put w9 (w.heap.size + 1 + 1) true A8 m8 c8 e1) ⟨w.heap.size, 0, none⟩ = some (.bool true)) := (hW.1.1.other (by omega) _ _ _ _ _).c0; clear kb hP8 hW))
  all_goals (
    go_wp2_with fail
    exact bodyPost_ret (v := .agg #[.bool true, .slice A8 m8 c8, .int .i64 e1]) (by simp [results, Tryd.results20, go_sem, u0, u1, u2]) rfl Hfin.out)

set_option maxHeartbeats 1000000 in
theorem radd_ltT_L (x y q : Nat) (A : Option Addr) (n c : Nat) (ds : List Nat) (e1 : Int) (B : Option Addr) (m d : Nat) (es : List Nat) (e2 : Int) (w : World) (hA : Dig w A n c ds) (hB : Dig w B m d es) (ba : D.Bare ds) (bb : D.Bare es) (hn : n ≤ 2600) (hm : m ≤ 2600) (hn0 : n ≠ 0) (hm0 : m ≠ 0)
    (hd : e1 - e2 = (q : Int)) (hq : q ≤ 24000) (hl : e2 < e1) (hx : Hid (D.val ds * 2 ^ q = x)) (hy : Hid (D.val es = y)) (ho : x < y) :
    Calls Tryd.prog 20 #[.agg #[.bool true, .slice A n c, .int .i64 e1], .agg #[.bool false, .slice B m d, .int .i64 e2]] w (NTold w ⟨false, y - x, e2⟩ 100001) := by
  have h0 : HS3 w w.heap.size true A n c ds e1 (w.heap.size + 1) false B m d es e2 (w.heap.size + 1 + 1) _ := HN.start3 w true A n c ds e1 false B m d es e2 hA hB
  have K0 := Lib.hid (h0.below (below_drew _)).cells
  have HP1 : Hid (∀ u, CellsS w w.heap.size true A n c ds e1 (w.heap.size + 1) false B m d es e2 (w.heap.size + 1 + 1) u → Calls Tryd.prog 44 #[.slice A n c, .int .i64 (q : Int)] u fun e w' => ∃ (A6 : Option Addr) (m6 c6 : Nat) (ps : List Nat), e = .returned (.slice A6 m6 c6) ∧ m6 ≤ 100000 ∧ CellsS w w.heap.size true A n c ds e1 (w.heap.size + 1) false B m d es e2 (w.heap.size + 1 + 1) w' ∧ Hid (Dig w' A6 m6 c6 ps ∧ D.Bare ps ∧ D.val ps = x ∧ Below u.heap.size u w')) := fun u hu => by
    have h := hu.2.2.2.2.2.2.out
    have this := rshl_any A n c ds q u h.1.2.2.1 ba (by omega) (by omega)
    rw [hx.out] at this
    refine this.mono ?_
    rintro e w' ⟨A6, m6, c6, ps, rfl, q1, q2, q3, q4, q5⟩
    exact ⟨A6, m6, c6, ps, rfl, q1, (h.below q5).cells, q2, q3, q4, q5⟩
  have HP2 : Hid (∀ u, CellsS w w.heap.size true A n c ds e1 (w.heap.size + 1) false B m d es e2 (w.heap.size + 1 + 1) u → Calls Tryd.prog 44 #[.slice B m d, .int .i64 0] u fun e w' => ∃ (A6 : Option Addr) (m6 c6 : Nat) (ps : List Nat), e = .returned (.slice A6 m6 c6) ∧ m6 ≤ 100000 ∧ CellsS w w.heap.size true A n c ds e1 (w.heap.size + 1) false B m d es e2 (w.heap.size + 1 + 1) w' ∧ Hid (Dig w' A6 m6 c6 ps ∧ D.Bare ps ∧ D.val ps = y ∧ Below u.heap.size u w')) := fun u hu => by
    have h := hu.2.2.2.2.2.2.out
    have this := rshl_any B m d es 0 u h.1.2.2.2.1 bb (by omega) (by omega)
    rw [show ((0 : Nat) : Int) = 0 from rfl, Nat.pow_zero, Nat.mul_one] at this
    rw [hy.out] at this
    refine this.mono ?_
    rintro e w' ⟨A6, m6, c6, ps, rfl, q1, q2, q3, q4, q5⟩
    exact ⟨A6, m6, c6, ps, rfl, q1, (h.below q5).cells, q2, q3, q4, q5⟩
  have hwq : IntKind.i64.wrap (q : Int) = (q : Int) := by rw [IntKind.wrap_i64]; omega
  have hw0 : IntKind.i64.wrap 0 = 0 := by decide
  have c1 : ((n : Int) == 0) = false := beq_no (by omega)
  have c2 : ((m : Int) == 0) = false := beq_no (by omega)
  have x1 := h0.1.1.c1
  have x2 := h0.1.1.c2
  have y1 := h0.1.2.1.c1
  have y2 := h0.1.2.1.c2
  have b1 : decide (e2 < e1) = true := decide_eq_true hl
  clear hA hB ba bb hx hy h0 hl hn0 hm0
  go_enter Tryd.func20, Tryd.ntmps20
  go_wp2_with fail
  go_region_held3 (fun w' => w'.cell? ⟨w.heap.size, 0, none⟩ = some (.bool true) ∧ w'.cell? ⟨w.heap.size, 1, none⟩ = some (.slice A n c) ∧ w'.cell? ⟨w.heap.size, 2, none⟩ = some (.int .i64 e1) ∧ w'.cell? ⟨w.heap.size + 1, 0, none⟩ = some (.bool false) ∧ w'.cell? ⟨w.heap.size + 1, 1, none⟩ = some (.slice B m d) ∧ w'.cell? ⟨w.heap.size + 1, 2, none⟩ = some (.int .i64 e2) ∧ Hid (HS3 w w.heap.size true A n c ds e1 (w.heap.size + 1) false B m d es e2 (w.heap.size + 1 + 1) w'))
    (first | (with_reducible exact K0.out) | (with_reducible assumption))
    (first | (go_at_call 44; (with_reducible refine (HP1.out _ (by first | (with_reducible exact K0.out) | (with_reducible assumption))).mono ?_); rintro e w1 ⟨A6, m6, c6, ps, rfl, hm6, hY, hP6⟩) | (go_at_call 44; (with_reducible refine (HP2.out _ (by first | (with_reducible exact K0.out) | (with_reducible assumption))).mono ?_); rintro e w2 ⟨A7, m7, c7, qs, rfl, hm7, hZ, hP7⟩))
  have G1 := hP6.out.1.below hP7.out.2.2.2
  have G2 := hP7.out.1
  have HZ := Lib.hid hZ.2.2.2.2.2.2.out
  have HB := Lib.hid (And.intro hP6.out.2.1 (And.intro hP6.out.2.2.1 (And.intro hP7.out.2.1 hP7.out.2.2.1)))
  have Z0 := Lib.hid (HZ.out.below (below_drew _)).cells
  have HC : Hid (∀ u, Dig u A6 m6 c6 ps → Dig u A7 m7 c7 qs → CellsS w w.heap.size true A n c ds e1 (w.heap.size + 1) false B m d es e2 (w.heap.size + 1 + 1) u → Calls Tryd.prog 47 #[.slice A7 m7 c7, .slice A6 m6 c6] u fun e w' => ∃ (A8 : Option Addr) (m8 c8 : Nat) (rs : List Nat), e = .returned (.slice A8 m8 c8) ∧ m8 ≤ 100001 ∧ CellsS w w.heap.size true A n c ds e1 (w.heap.size + 1) false B m d es e2 (w.heap.size + 1 + 1) w' ∧ Hid (Dig w' A8 m8 c8 rs ∧ D.Bare rs ∧ D.val rs = y - x)) := fun u d1 d2 hu => by
    have h := hu.2.2.2.2.2.2.out
    refine (rsub_any A7 m7 c7 qs A6 m6 c6 ps u d2 d1 HB.out.1 (by rw [HB.out.2.1, HB.out.2.2.2]; omega) (by omega) (by omega)).mono ?_
    rintro e w' ⟨A8, m8, c8, rs, rfl, q1, q2, q3, q4, q5⟩
    exact ⟨A8, m8, c8, rs, rfl, by omega, (h.below q5).cells, q2, q3, by rw [q4, HB.out.2.1, HB.out.2.2.2]⟩
  obtain ⟨z, hz⟩ : ∃ z, cmpZ x y = z := ⟨_, rfl⟩
  have HR := rcmp_any A6 m6 c6 ps A7 m7 c7 qs w2 G1 G2 HB.out.1 HB.out.2.2.1 (by omega) (by omega)
  rw [HB.out.2.1, HB.out.2.2.2, hz] at HR
  have HR := Lib.hid HR
  have b3 : decide (0 ≤ z) = false := by
    rw [← hz]
    rw [cmpZ_lt ho]; rfl
  have G1h := Lib.hid G1
  have G2h := Lib.hid G2
  clear hz
  clear K0 HP1 HP2 hY hP6 hP7 c1 c2 x1 x2 y1 y2 b1 G1 G2
  obtain ⟨x0, x1, x2, y0, y1, y2, _⟩ := hZ
  go_wp2_with fail
  refine HR.out.mono ?_
  rintro e w3 ⟨rfl, nq, rfl⟩
  have Hq := Lib.hid (HZ.out.below (below_drewN (Below.refl _ _) nq))
  have Zq := Lib.hid (HZ.out.below (below_drewN (Below.refl _ _) (nq + 1))).cells
  have Zr := Lib.hid (Hq.out.below (below_drew _)).cells
  have G1q := Lib.hid (G1h.out.drewN (nq + 1))
  have G2q := Lib.hid (G2h.out.drewN (nq + 1))
  obtain ⟨v0, v1, v2, s0, s1, s2, _⟩ := Hq.out.cells
  clear x0 x1 x2 y0 y1 y2 HR HZ Z0
  go_wp2_with fail
  go_region_held3 (fun w' => w'.cell? ⟨w.heap.size + 1, 0, none⟩ = some (.bool false))
    (first | (with_reducible exact Zq.out.2.2.2.1) | (with_reducible exact Zr.out.2.2.2.1) | (with_reducible exact Kp.out) | (with_reducible exact hX.2.2.2.1))
    ((go_at_call 47; (with_reducible refine (HC.out _ G1q.out G2q.out Zq.out).mono ?_); rintro e w9 ⟨A8, m8, c8, rs, rfl, hm8, hX, hP8⟩; have kb := hX.2.2.2.2.2.2.out.2; have u0 := kb.c0; have u1 := kb.c1; have u2 := kb.c2; have uf := kb.fz; have Hfin : Hid (NTold w ⟨false, y - x, e2⟩ 100001 (.returned (.agg #[.bool false, .slice A8 m8 c8, .int .i64 e2])) (World.put w9 (w.heap.size + 1 + 1) false A8 m8 c8 e2)) := ⟨A8, m8, c8, rs, rfl, hm8, kb.dig hP8.out.1 _ _ _ _ _, hP8.out.2.1, hP8.out.2.2, below_put hX.2.2.2.2.2.2.out.1.2.2.2.2 (by omega) _ _ _ _ _⟩; have hW := hX.2.2.2.2.2.2.out; have Kp : Hid (World.cell? (World.put w9 (w.heap.size + 1 + 1) false A8 m8 c8 e2) ⟨w.heap.size + 1, 0, none⟩ = some (.bool false)) := (hW.1.2.1.other (by omega) _ _ _ _ _).c0; clear kb hP8 hW))
  all_goals (
    go_wp2_with fail
    exact bodyPost_ret (v := .agg #[.bool false, .slice A8 m8 c8, .int .i64 e2]) (by simp [results, Tryd.results20, go_sem, u0, u1, u2]) rfl Hfin.out)

set_option maxHeartbeats 1000000 in
theorem radd_ltT_G (x y q : Nat) (A : Option Addr) (n c : Nat) (ds : List Nat) (e1 : Int) (B : Option Addr) (m d : Nat) (es : List Nat) (e2 : Int) (w : World) (hA : Dig w A n c ds) (hB : Dig w B m d es) (ba : D.Bare ds) (bb : D.Bare es) (hn : n ≤ 2600) (hm : m ≤ 2600) (hn0 : n ≠ 0) (hm0 : m ≠ 0)
    (hd : e2 - e1 = (q : Int)) (hq : q ≤ 24000) (hx : Hid (D.val ds = x)) (hy : Hid (D.val es * 2 ^ q = y)) (ho : x < y) :
    Calls Tryd.prog 20 #[.agg #[.bool true, .slice A n c, .int .i64 e1], .agg #[.bool false, .slice B m d, .int .i64 e2]] w (NTold w ⟨false, y - x, e1⟩ 100001) := by
  have h0 : HS3 w w.heap.size true A n c ds e1 (w.heap.size + 1) false B m d es e2 (w.heap.size + 1 + 1) _ := HN.start3 w true A n c ds e1 false B m d es e2 hA hB
  have K0 := Lib.hid (h0.below (below_drew _)).cells
  have HP1 : Hid (∀ u, CellsS w w.heap.size true A n c ds e1 (w.heap.size + 1) false B m d es e2 (w.heap.size + 1 + 1) u → Calls Tryd.prog 44 #[.slice A n c, .int .i64 0] u fun e w' => ∃ (A6 : Option Addr) (m6 c6 : Nat) (ps : List Nat), e = .returned (.slice A6 m6 c6) ∧ m6 ≤ 100000 ∧ CellsS w w.heap.size true A n c ds e1 (w.heap.size + 1) false B m d es e2 (w.heap.size + 1 + 1) w' ∧ Hid (Dig w' A6 m6 c6 ps ∧ D.Bare ps ∧ D.val ps = x ∧ Below u.heap.size u w')) := fun u hu => by
    have h := hu.2.2.2.2.2.2.out
    have this := rshl_any A n c ds 0 u h.1.2.2.1 ba (by omega) (by omega)
    rw [show ((0 : Nat) : Int) = 0 from rfl, Nat.pow_zero, Nat.mul_one] at this
    rw [hx.out] at this
    refine this.mono ?_
    rintro e w' ⟨A6, m6, c6, ps, rfl, q1, q2, q3, q4, q5⟩
    exact ⟨A6, m6, c6, ps, rfl, q1, (h.below q5).cells, q2, q3, q4, q5⟩
  have HP2 : Hid (∀ u, CellsS w w.heap.size true A n c ds e1 (w.heap.size + 1) false B m d es e2 (w.heap.size + 1 + 1) u → Calls Tryd.prog 44 #[.slice B m d, .int .i64 (q : Int)] u fun e w' => ∃ (A6 : Option Addr) (m6 c6 : Nat) (ps : List Nat), e = .returned (.slice A6 m6 c6) ∧ m6 ≤ 100000 ∧ CellsS w w.heap.size true A n c ds e1 (w.heap.size + 1) false B m d es e2 (w.heap.size + 1 + 1) w' ∧ Hid (Dig w' A6 m6 c6 ps ∧ D.Bare ps ∧ D.val ps = y ∧ Below u.heap.size u w')) := fun u hu => by
    have h := hu.2.2.2.2.2.2.out
    have this := rshl_any B m d es q u h.1.2.2.2.1 bb (by omega) (by omega)
    rw [hy.out] at this
    refine this.mono ?_
    rintro e w' ⟨A6, m6, c6, ps, rfl, q1, q2, q3, q4, q5⟩
    exact ⟨A6, m6, c6, ps, rfl, q1, (h.below q5).cells, q2, q3, q4, q5⟩
  have hwq : IntKind.i64.wrap (q : Int) = (q : Int) := by rw [IntKind.wrap_i64]; omega
  have hw0 : IntKind.i64.wrap 0 = 0 := by decide
  have c1 : ((n : Int) == 0) = false := beq_no (by omega)
  have c2 : ((m : Int) == 0) = false := beq_no (by omega)
  have x1 := h0.1.1.c1
  have x2 := h0.1.1.c2
  have y1 := h0.1.2.1.c1
  have y2 := h0.1.2.1.c2
  have b1 : decide (e2 < e1) = false := decide_eq_false (by omega)
  clear hA hB ba bb hx hy h0 hn0 hm0
  go_enter Tryd.func20, Tryd.ntmps20
  go_wp2_with fail
  go_region_held3 (fun w' => w'.cell? ⟨w.heap.size, 0, none⟩ = some (.bool true) ∧ w'.cell? ⟨w.heap.size, 1, none⟩ = some (.slice A n c) ∧ w'.cell? ⟨w.heap.size, 2, none⟩ = some (.int .i64 e1) ∧ w'.cell? ⟨w.heap.size + 1, 0, none⟩ = some (.bool false) ∧ w'.cell? ⟨w.heap.size + 1, 1, none⟩ = some (.slice B m d) ∧ w'.cell? ⟨w.heap.size + 1, 2, none⟩ = some (.int .i64 e2) ∧ Hid (HS3 w w.heap.size true A n c ds e1 (w.heap.size + 1) false B m d es e2 (w.heap.size + 1 + 1) w'))
    (first | (with_reducible exact K0.out) | (with_reducible assumption))
    (first | (go_at_call 44; (with_reducible refine (HP1.out _ (by first | (with_reducible exact K0.out) | (with_reducible assumption))).mono ?_); rintro e w1 ⟨A6, m6, c6, ps, rfl, hm6, hY, hP6⟩) | (go_at_call 44; (with_reducible refine (HP2.out _ (by first | (with_reducible exact K0.out) | (with_reducible assumption))).mono ?_); rintro e w2 ⟨A7, m7, c7, qs, rfl, hm7, hZ, hP7⟩))
  have G1 := hP6.out.1.below hP7.out.2.2.2
  have G2 := hP7.out.1
  have HZ := Lib.hid hZ.2.2.2.2.2.2.out
  have HB := Lib.hid (And.intro hP6.out.2.1 (And.intro hP6.out.2.2.1 (And.intro hP7.out.2.1 hP7.out.2.2.1)))
  have Z0 := Lib.hid (HZ.out.below (below_drew _)).cells
  have HC : Hid (∀ u, Dig u A6 m6 c6 ps → Dig u A7 m7 c7 qs → CellsS w w.heap.size true A n c ds e1 (w.heap.size + 1) false B m d es e2 (w.heap.size + 1 + 1) u → Calls Tryd.prog 47 #[.slice A7 m7 c7, .slice A6 m6 c6] u fun e w' => ∃ (A8 : Option Addr) (m8 c8 : Nat) (rs : List Nat), e = .returned (.slice A8 m8 c8) ∧ m8 ≤ 100001 ∧ CellsS w w.heap.size true A n c ds e1 (w.heap.size + 1) false B m d es e2 (w.heap.size + 1 + 1) w' ∧ Hid (Dig w' A8 m8 c8 rs ∧ D.Bare rs ∧ D.val rs = y - x)) := fun u d1 d2 hu => by
    have h := hu.2.2.2.2.2.2.out
    refine (rsub_any A7 m7 c7 qs A6 m6 c6 ps u d2 d1 HB.out.1 (by rw [HB.out.2.1, HB.out.2.2.2]; omega) (by omega) (by omega)).mono ?_
    rintro e w' ⟨A8, m8, c8, rs, rfl, q1, q2, q3, q4, q5⟩
    exact ⟨A8, m8, c8, rs, rfl, by omega, (h.below q5).cells, q2, q3, by rw [q4, HB.out.2.1, HB.out.2.2.2]⟩
  obtain ⟨z, hz⟩ : ∃ z, cmpZ x y = z := ⟨_, rfl⟩
  have HR := rcmp_any A6 m6 c6 ps A7 m7 c7 qs w2 G1 G2 HB.out.1 HB.out.2.2.1 (by omega) (by omega)
  rw [HB.out.2.1, HB.out.2.2.2, hz] at HR
  have HR := Lib.hid HR
  have b3 : decide (0 ≤ z) = false := by
    rw [← hz]
    rw [cmpZ_lt ho]; rfl
  have G1h := Lib.hid G1
  have G2h := Lib.hid G2
  clear hz
  clear K0 HP1 HP2 hY hP6 hP7 c1 c2 x1 x2 y1 y2 b1 G1 G2
  obtain ⟨x0, x1, x2, y0, y1, y2, _⟩ := hZ
  go_wp2_with fail
  refine HR.out.mono ?_
  rintro e w3 ⟨rfl, nq, rfl⟩
  have Hq := Lib.hid (HZ.out.below (below_drewN (Below.refl _ _) nq))
  have Zq := Lib.hid (HZ.out.below (below_drewN (Below.refl _ _) (nq + 1))).cells
  have Zr := Lib.hid (Hq.out.below (below_drew _)).cells
  have G1q := Lib.hid (G1h.out.drewN (nq + 1))
  have G2q := Lib.hid (G2h.out.drewN (nq + 1))
  obtain ⟨v0, v1, v2, s0, s1, s2, _⟩ := Hq.out.cells
  clear x0 x1 x2 y0 y1 y2 HR HZ Z0
  go_wp2_with fail
  go_region_held3 (fun w' => w'.cell? ⟨w.heap.size + 1, 0, none⟩ = some (.bool false))
    (first | (with_reducible exact Zq.out.2.2.2.1) | (with_reducible exact Zr.out.2.2.2.1) | (with_reducible exact Kp.out) | (with_reducible exact hX.2.2.2.1))
    ((go_at_call 47; (with_reducible refine (HC.out _ G1q.out G2q.out Zq.out).mono ?_); rintro e w9 ⟨A8, m8, c8, rs, rfl, hm8, hX, hP8⟩; have kb := hX.2.2.2.2.2.2.out.2; have u0 := kb.c0; have u1 := kb.c1; have u2 := kb.c2; have uf := kb.fz; have Hfin : Hid (NTold w ⟨false, y - x, e1⟩ 100001 (.returned (.agg #[.bool false, .slice A8 m8 c8, .int .i64 e1])) (World.put w9 (w.heap.size + 1 + 1) false A8 m8 c8 e1)) := ⟨A8, m8, c8, rs, rfl, hm8, kb.dig hP8.out.1 _ _ _ _ _, hP8.out.2.1, hP8.out.2.2, below_put hX.2.2.2.2.2.2.out.1.2.2.2.2 (by omega) _ _ _ _ _⟩; have hW := hX.2.2.2.2.2.2.out; have Kp : Hid (World.cell? (World.put w9 (w.heap.size + 1 + 1) false A8 m8 c8 e1) ⟨w.heap.size + 1, 0, none⟩ = some (.bool false)) := (hW.1.2.1.other (by omega) _ _ _ _ _).c0; clear kb hP8 hW))
  all_goals (
    go_wp2_with fail
    exact bodyPost_ret (v := .agg #[.bool false, .slice A8 m8 c8, .int .i64 e1]) (by simp [results, Tryd.results20, go_sem, u0, u1, u2]) rfl Hfin.out)

end Go.Proofs.YtafgooiakmmfkaaDoor
/- The document's sum of any two numbers whose exponents are near. -/
namespace Go.Proofs.YtafgooiakmmfkaaDoor
open Go.RowKit

/-- The second number is 0: the first one. -/
theorem radd_zero2 (g : Bool) (A : Option Addr) (n c : Nat) (ds : List Nat) (e1 : Int) (k : Bool) (B : Option Addr) (d : Nat) (e2 : Int) (w : World) (hA : Dig w A n c ds) (ba : D.Bare ds) (hn0 : n ≠ 0) :
    Calls Tryd.prog 20 #[.agg #[.bool g, .slice A n c, .int .i64 e1], .agg #[.bool k, .slice B 0 d, .int .i64 e2]] w (NTold w ⟨g, D.val ds, e1⟩ n) := by
  have h0 := (HN.start w g A n c ds e1 k B 0 d [] e2 hA (Dig.nil _ _ _)).below (below1 _ (.cells #[.bool g, .slice A n c, .int .i64 e1] 31))
  have Hfin : Hid (NTold w ⟨g, D.val ds, e1⟩ n (.returned (.agg #[.bool g, .slice A n c, .int .i64 e1])) (((w.alloc (.cells #[.bool g, .slice A n c, .int .i64 e1] 31)).alloc (.cells #[.bool k, .slice B 0 d, .int .i64 e2] 31)).alloc (.cells #[.bool g, .slice A n c, .int .i64 e1] 31))) :=
    ⟨A, n, c, ds, rfl, Nat.le_refl _, h0.2.2.1, ba, rfl, h0.2.2.2.2⟩
  have c1 : ((n : Int) == 0) = false := beq_no (by omega)
  clear h0 hA ba hn0
  go_enter Tryd.func20, Tryd.ntmps20
  go_wp2
  exact bodyPost_ret (v := .agg #[.bool g, .slice A n c, .int .i64 e1]) (by simp [results, Tryd.results20, go_sem]) rfl Hfin.out

theorem dw_pos (x : Nat) (e : Int) : dw false x e = (sz x e : Int) := rfl
theorem dw_negs (x : Nat) (e : Int) : dw true x e = -(sz x e : Int) := rfl
theorem sz_add (x y : Nat) (e : Int) : sz (x + y) e = sz x e + sz y e := by unfold sz; rw [Nat.add_mul]
theorem sz_sub (x y : Nat) (e : Int) (h : y ≤ x) : (sz (x - y) e : Int) = (sz x e : Int) - (sz y e : Int) := by
  have h1 := sz_add (x - y) y e
  rw [Nat.sub_add_cancel h] at h1
  omega
/-- Add tells the number o of two such. -/
def AddsTo (g k : Bool) (V1 V2 : Nat) (e1 e2 : Int) (o : Dy) : Prop :=
  ∀ (A : Option Addr) (n c : Nat) (ds : List Nat) (B : Option Addr) (m d : Nat) (es : List Nat) (w : World), Dig w A n c ds → Dig w B m d es → D.Bare ds → D.Bare es → n ≤ 2600 → m ≤ 2600 → D.val ds = V1 → D.val es = V2 →
        Calls Tryd.prog 20 #[.agg #[.bool g, .slice A n c, .int .i64 e1], .agg #[.bool k, .slice B m d, .int .i64 e2]] w (NTold w o 100001)
/-- What Add tells of any two numbers: a number that is worth their sum. -/
theorem gadd_spec (g k : Bool) (V1 V2 : Nat) (e1 e2 : Int) (h1 : -1073741824 ≤ e1) (h2 : e1 ≤ 1073741824) (h3 : -1073741824 ≤ e2) (h4 : e2 ≤ 1073741824) (h5 : e1 ≤ e2 + 24000) (h6 : e2 ≤ e1 + 24000) :
    ∃ o : Dy, dw o.neg o.V o.e = dw g V1 e1 + dw k V2 e2 ∧ -1073741824 ≤ o.e ∧ o.e ≤ 1073741824 ∧ (o.e = e1 ∨ o.e = e2) ∧ (o.e ≤ e1 ∨ V1 = 0) ∧ (o.e ≤ e2 ∨ V2 = 0) ∧
      AddsTo g k V1 V2 e1 e2 o := by
  by_cases z1 : V1 = 0
  · refine ⟨⟨k, V2, e2⟩, by rw [z1, dw_zero]; simp, h3, h4, Or.inr rfl, Or.inr z1, Or.inl (Int.le_refl _), ?_⟩
    intro A n c ds B m d es w hA hB ba bb hn hm v1 v2
    obtain rfl : n = 0 := (dnil_iff hA ba).2 (v1.trans z1)
    refine (radd_zero g A c e1 k B m d es e2 w hB bb).mono ?_
    rintro e w' ⟨A5, m5, c5, rs, rfl, k1, k2, k3, k4, k5⟩
    exact ⟨A5, m5, c5, rs, rfl, by omega, k2, k3, k4.trans v2, k5⟩
  · by_cases z2 : V2 = 0
    · refine ⟨⟨g, V1, e1⟩, by rw [z2, dw_zero]; simp, h1, h2, Or.inl rfl, Or.inl (Int.le_refl _), Or.inr z2, ?_⟩
      intro A n c ds B m d es w hA hB ba bb hn hm v1 v2
      obtain rfl : m = 0 := (dnil_iff hB bb).2 (v2.trans z2)
      refine (radd_zero2 g A n c ds e1 k B d e2 w hA ba (fun h => z1 (v1.symm.trans ((dnil_iff hA ba).1 h)))).mono ?_
      rintro e w' ⟨A5, m5, c5, rs, rfl, k1, k2, k3, k4, k5⟩
      exact ⟨A5, m5, c5, rs, rfl, by omega, k2, k3, k4.trans v1, k5⟩
    · have nz1 : ∀ {w : World} {A : Option Addr} {n c : Nat} {ds : List Nat}, Dig w A n c ds → D.Bare ds → D.val ds = V1 → n ≠ 0 := fun hA ba v1 h => z1 (v1.symm.trans ((dnil_iff hA ba).1 h))
      have nz2 : ∀ {w : World} {A : Option Addr} {n c : Nat} {ds : List Nat}, Dig w A n c ds → D.Bare ds → D.val ds = V2 → n ≠ 0 := fun hA ba v1 h => z2 (v1.symm.trans ((dnil_iff hA ba).1 h))
      by_cases hl : e2 < e1
      · obtain ⟨q, hq⟩ : ∃ q : Nat, e1 - e2 = (q : Int) := ⟨(e1 - e2).toNat, by omega⟩
        have hh : held e1 = held e2 + q := by rw [held_id h1 h2, held_id h3 h4]; omega
        have hs : sz V1 e1 = sz (V1 * 2 ^ q) e2 := sz_shift hh
        have key : ∀ o : Dy, o.e = e2 → dw o.neg o.V o.e = dw g V1 e1 + dw k V2 e2 → AddsTo g k V1 V2 e1 e2 o → (∃ o : Dy, dw o.neg o.V o.e = dw g V1 e1 + dw k V2 e2 ∧ -1073741824 ≤ o.e ∧ o.e ≤ 1073741824 ∧ (o.e = e1 ∨ o.e = e2) ∧ (o.e ≤ e1 ∨ V1 = 0) ∧ (o.e ≤ e2 ∨ V2 = 0) ∧ AddsTo g k V1 V2 e1 e2 o) := fun o ho hw hc => ⟨o, hw, by omega, by omega, Or.inr ho, Or.inl (by omega), Or.inl (by omega), hc⟩
        cases g <;> cases k
        · exact key ⟨false, V1 * 2 ^ q + V2, e2⟩ rfl (by simp only [dw_pos]; rw [hs, sz_add]; omega) (fun A n c ds B m d es w hA hB ba bb hn hm v1 v2 => radd_sum_L (V1 * 2 ^ q) V2 q A n c ds e1 B m d es e2 w hA hB ba bb hn hm (nz1 hA ba v1) (nz2 hB bb v2) hq (by omega) hl (by show _ = _; rw [v1]) v2)
        · rcases Nat.lt_or_ge (V1 * 2 ^ q) V2 with ho | ho
          · exact key ⟨true, V2 - V1 * 2 ^ q, e2⟩ rfl (by simp only [dw_pos, dw_negs]; rw [hs, sz_sub _ _ _ (by omega)]; omega) (fun A n c ds B m d es w hA hB ba bb hn hm v1 v2 => radd_lt_L (V1 * 2 ^ q) V2 q A n c ds e1 B m d es e2 w hA hB ba bb hn hm (nz1 hA ba v1) (nz2 hB bb v2) hq (by omega) hl (by show _ = _; rw [v1]) v2 ho)
          · exact key ⟨false, V1 * 2 ^ q - V2, e2⟩ rfl (by simp only [dw_pos, dw_negs]; rw [hs, sz_sub _ _ _ ho]; omega) (fun A n c ds B m d es w hA hB ba bb hn hm v1 v2 => radd_ge_L (V1 * 2 ^ q) V2 q A n c ds e1 B m d es e2 w hA hB ba bb hn hm (nz1 hA ba v1) (nz2 hB bb v2) hq (by omega) hl (by show _ = _; rw [v1]) v2 ho)
        · rcases Nat.lt_or_ge (V1 * 2 ^ q) V2 with ho | ho
          · exact key ⟨false, V2 - V1 * 2 ^ q, e2⟩ rfl (by simp only [dw_pos, dw_negs]; rw [hs, sz_sub _ _ _ (by omega)]; omega) (fun A n c ds B m d es w hA hB ba bb hn hm v1 v2 => radd_ltT_L (V1 * 2 ^ q) V2 q A n c ds e1 B m d es e2 w hA hB ba bb hn hm (nz1 hA ba v1) (nz2 hB bb v2) hq (by omega) hl (by show _ = _; rw [v1]) v2 ho)
          · exact key ⟨true, V1 * 2 ^ q - V2, e2⟩ rfl (by simp only [dw_pos, dw_negs]; rw [hs, sz_sub _ _ _ ho]; omega) (fun A n c ds B m d es w hA hB ba bb hn hm v1 v2 => radd_geT_L (V1 * 2 ^ q) V2 q A n c ds e1 B m d es e2 w hA hB ba bb hn hm (nz1 hA ba v1) (nz2 hB bb v2) hq (by omega) hl (by show _ = _; rw [v1]) v2 ho)
        · exact key ⟨true, V1 * 2 ^ q + V2, e2⟩ rfl (by simp only [dw_negs]; rw [hs, sz_add]; omega) (fun A n c ds B m d es w hA hB ba bb hn hm v1 v2 => radd_sumT_L (V1 * 2 ^ q) V2 q A n c ds e1 B m d es e2 w hA hB ba bb hn hm (nz1 hA ba v1) (nz2 hB bb v2) hq (by omega) hl (by show _ = _; rw [v1]) v2)
      · obtain ⟨q, hq⟩ : ∃ q : Nat, e2 - e1 = (q : Int) := ⟨(e2 - e1).toNat, by omega⟩
        have hh : held e2 = held e1 + q := by rw [held_id h1 h2, held_id h3 h4]; omega
        have hs : sz V2 e2 = sz (V2 * 2 ^ q) e1 := sz_shift hh
        have key : ∀ o : Dy, o.e = e1 → dw o.neg o.V o.e = dw g V1 e1 + dw k V2 e2 → AddsTo g k V1 V2 e1 e2 o → (∃ o : Dy, dw o.neg o.V o.e = dw g V1 e1 + dw k V2 e2 ∧ -1073741824 ≤ o.e ∧ o.e ≤ 1073741824 ∧ (o.e = e1 ∨ o.e = e2) ∧ (o.e ≤ e1 ∨ V1 = 0) ∧ (o.e ≤ e2 ∨ V2 = 0) ∧ AddsTo g k V1 V2 e1 e2 o) := fun o ho hw hc => ⟨o, hw, by omega, by omega, Or.inl ho, Or.inl (by omega), Or.inl (by omega), hc⟩
        cases g <;> cases k
        · exact key ⟨false, V1 + V2 * 2 ^ q, e1⟩ rfl (by simp only [dw_pos]; rw [hs, sz_add]; omega) (fun A n c ds B m d es w hA hB ba bb hn hm v1 v2 => radd_sum_G V1 (V2 * 2 ^ q) q A n c ds e1 B m d es e2 w hA hB ba bb hn hm (nz1 hA ba v1) (nz2 hB bb v2) hq (by omega) v1 (by show _ = _; rw [v2]))
        · rcases Nat.lt_or_ge V1 (V2 * 2 ^ q) with ho | ho
          · exact key ⟨true, V2 * 2 ^ q - V1, e1⟩ rfl (by simp only [dw_pos, dw_negs]; rw [hs, sz_sub _ _ _ (by omega)]; omega) (fun A n c ds B m d es w hA hB ba bb hn hm v1 v2 => radd_lt_G V1 (V2 * 2 ^ q) q A n c ds e1 B m d es e2 w hA hB ba bb hn hm (nz1 hA ba v1) (nz2 hB bb v2) hq (by omega) v1 (by show _ = _; rw [v2]) ho)
          · exact key ⟨false, V1 - V2 * 2 ^ q, e1⟩ rfl (by simp only [dw_pos, dw_negs]; rw [hs, sz_sub _ _ _ ho]; omega) (fun A n c ds B m d es w hA hB ba bb hn hm v1 v2 => radd_ge_G V1 (V2 * 2 ^ q) q A n c ds e1 B m d es e2 w hA hB ba bb hn hm (nz1 hA ba v1) (nz2 hB bb v2) hq (by omega) v1 (by show _ = _; rw [v2]) ho)
        · rcases Nat.lt_or_ge V1 (V2 * 2 ^ q) with ho | ho
          · exact key ⟨false, V2 * 2 ^ q - V1, e1⟩ rfl (by simp only [dw_pos, dw_negs]; rw [hs, sz_sub _ _ _ (by omega)]; omega) (fun A n c ds B m d es w hA hB ba bb hn hm v1 v2 => radd_ltT_G V1 (V2 * 2 ^ q) q A n c ds e1 B m d es e2 w hA hB ba bb hn hm (nz1 hA ba v1) (nz2 hB bb v2) hq (by omega) v1 (by show _ = _; rw [v2]) ho)
          · exact key ⟨true, V1 - V2 * 2 ^ q, e1⟩ rfl (by simp only [dw_pos, dw_negs]; rw [hs, sz_sub _ _ _ ho]; omega) (fun A n c ds B m d es w hA hB ba bb hn hm v1 v2 => radd_geT_G V1 (V2 * 2 ^ q) q A n c ds e1 B m d es e2 w hA hB ba bb hn hm (nz1 hA ba v1) (nz2 hB bb v2) hq (by omega) v1 (by show _ = _; rw [v2]) ho)
        · exact key ⟨true, V1 + V2 * 2 ^ q, e1⟩ rfl (by simp only [dw_negs]; rw [hs, sz_add]; omega) (fun A n c ds B m d es w hA hB ba bb hn hm v1 v2 => radd_sumT_G V1 (V2 * 2 ^ q) q A n c ds e1 B m d es e2 w hA hB ba bb hn hm (nz1 hA ba v1) (nz2 hB bb v2) hq (by omega) v1 (by show _ = _; rw [v2]))
end Go.Proofs.YtafgooiakmmfkaaDoor
/- The document's Cmp of any two numbers (written by law_gcmp.py). -/
namespace Go.Proofs.YtafgooiakmmfkaaDoor
open Go.RowKit

theorem cmpZ_turn (x y : Nat) : cmpI (-(x : Int)) (-(y : Int)) = - cmpZ x y := by
  rcases Nat.lt_trichotomy x y with h | h | h
  · rw [cmpZ_lt h, cmpI_gt (by omega)]; rfl
  · rw [cmpZ_eq h, cmpI_eq (by omega)]; rfl
  · rw [cmpZ_gt h, cmpI_lt (by omega)]
theorem cmpZ_keep (x y : Nat) : cmpI (x : Int) (y : Int) = cmpZ x y := by
  rcases Nat.lt_trichotomy x y with h | h | h
  · rw [cmpZ_lt h, cmpI_lt (by omega)]
  · rw [cmpZ_eq h, cmpI_eq (by omega)]
  · rw [cmpZ_gt h, cmpI_gt (by omega)]
/-- The sign of a difference. -/
theorem sgD_sub {o : Dy} {V U : Nat} {e f : Int} (h : dw o.neg o.V o.e = dw true V e + dw false U f) : sgD o.neg o.V = cmpI (dw true V e) (dw true U f) := by
  have h2 : dw true U f = - dw false U f := by rw [dw_negs, dw_pos]
  rcases sgD_spec o.neg o.V o.e with ⟨k1, _, k3⟩ | ⟨k1, _, k3, k4⟩ | ⟨k1, _, k3, k4⟩
  · rw [k1, cmpI_eq (by omega)]
  · rw [k1, cmpI_lt (by omega)]
  · rw [k1, cmpI_gt (by omega)]
set_option maxHeartbeats 2000000 in
theorem gcmp_neg (v : Int) (A : Option Addr) (n c : Nat) (ds : List Nat) (e1 : Int) (B : Option Addr) (m d : Nat) (es : List Nat) (e2 : Int) (w : World) (hA : Dig w A n c ds) (hB : Dig w B m d es) (ba : D.Bare ds) (bb : D.Bare es) (hn : n ≤ 1450) (hm : m ≤ 1450) (hV : D.val ds ≠ 0) (hU : D.val es ≠ 0)
    (h1 : -1073741824 ≤ e1) (h2 : e1 ≤ 1073741824) (h3 : -1073741824 ≤ e2) (h4 : e2 ≤ 1073741824) (hv : Hid (cmpI (dw true (D.val ds) e1) (dw true (D.val es) e2) = v)) :
    Calls Tryd.prog 10 #[.agg #[.bool true, .slice A n c, .int .i64 e1], .agg #[.bool true, .slice B m d, .int .i64 e2]] w fun e w' => e = .returned (.int .i64 v) ∧ Below w.heap.size w w' := by
  have hs1 : sgD true (D.val ds) = -1 := by unfold sgD; rw [if_neg hV]; rfl
  have hs2 : sgD true (D.val es) = -1 := by unfold sgD; rw [if_neg hU]; rfl
  have H0 := Lib.hid ((HN.start w true A n c ds e1 true B m d es e2 hA hB).below (below_drew _))
  have HS1 : Hid (∀ u, CellsN w w.heap.size true A n c ds e1 (w.heap.size + 1) true B m d es e2 u → Calls Tryd.prog 37 #[.agg #[.bool true, .slice A n c, .int .i64 e1]] u fun e w' => e = .returned (.int .i64 (-1)) ∧ CellsN w w.heap.size true A n c ds e1 (w.heap.size + 1) true B m d es e2 w') := fun u hu => by
    have h := hu.2.2.2.2.2.2.out
    refine (rsign_l (-1) true A n c ds e1 u h.2.2.1 ba hs1).mono ?_
    rintro e w' ⟨rfl, hb⟩
    exact ⟨rfl, (h.below hb).cells⟩
  have HS2 : Hid (∀ u, CellsN w w.heap.size true A n c ds e1 (w.heap.size + 1) true B m d es e2 u → Calls Tryd.prog 37 #[.agg #[.bool true, .slice B m d, .int .i64 e2]] u fun e w' => e = .returned (.int .i64 (-1)) ∧ CellsN w w.heap.size true A n c ds e1 (w.heap.size + 1) true B m d es e2 w') := fun u hu => by
    have h := hu.2.2.2.2.2.2.out
    refine (rsign_l (-1) true B m d es e2 u h.2.2.2.1 bb hs2).mono ?_
    rintro e w' ⟨rfl, hb⟩
    exact ⟨rfl, (h.below hb).cells⟩
  have hz := dnil_iff hA ba
  have hz2 := dnil_iff hB bb
  have lt1 := D.val_lt hA.words
  have lt2 := D.val_lt hB.words
  rw [hA.len, D.pw_two] at lt1
  rw [hB.len, D.pw_two] at lt2
  have bl1 := blen_le_iff.2 lt1
  have bl2 := blen_le_iff.2 lt2
  have hv' := hv.out
  have HBA := Lib.hid ba
  have HBB := Lib.hid bb
  clear hA hB ba bb lt1 lt2 hs1 hs2 hv
  have hn0 : n ≠ 0 := fun h => hV (hz.1 h)
  have hm0 : m ≠ 0 := fun h => hU (hz2.1 h)
  have B1 := blen_pos hV
  have B2 := blen_pos hU
  obtain ⟨t1, ht1⟩ : ∃ t, rtop (D.val ds) e1 = t := ⟨_, rfl⟩
  obtain ⟨t2, ht2⟩ : ∃ t, rtop (D.val es) e2 = t := ⟨_, rfl⟩
  have HT1 : Hid (∀ u, CellsN w w.heap.size true A n c ds e1 (w.heap.size + 1) true B m d es e2 u → Calls Tryd.prog 38 #[.agg #[.bool true, .slice A n c, .int .i64 e1]] u fun e w' => e = .returned (.int .i64 t1) ∧ CellsN w w.heap.size true A n c ds e1 (w.heap.size + 1) true B m d es e2 w') := fun u hu => by
    have h := hu.2.2.2.2.2.2.out
    refine (rtop_l t1 true A n c ds e1 u h.2.2.1 HBA.out (by omega) (by omega) (by omega) ht1).mono ?_
    rintro e w' ⟨rfl, hb⟩
    exact ⟨rfl, (h.below hb).cells⟩
  have HT2 : Hid (∀ u, CellsN w w.heap.size true A n c ds e1 (w.heap.size + 1) true B m d es e2 u → Calls Tryd.prog 38 #[.agg #[.bool true, .slice B m d, .int .i64 e2]] u fun e w' => e = .returned (.int .i64 t2) ∧ CellsN w w.heap.size true A n c ds e1 (w.heap.size + 1) true B m d es e2 w') := fun u hu => by
    have h := hu.2.2.2.2.2.2.out
    refine (rtop_l t2 true B m d es e2 u h.2.2.2.1 HBB.out (by omega) (by omega) (by omega) ht2).mono ?_
    rintro e w' ⟨rfl, hb⟩
    exact ⟨rfl, (h.below hb).cells⟩
  have htt : t1 ≠ t2 → cmpI t2 t1 = v := fun h => by
    have e1' : topD (D.val ds) e1 = t1 := by unfold topD; rw [held_id h1 h2]; exact ht1
    have e2' : topD (D.val es) e2 = t2 := by unfold topD; rw [held_id h3 h4]; exact ht2
    have := cmp_tops (e := e1) (f := e2) hV hU (by rw [e1', e2']; exact h)
    rw [e1', e2'] at this
    rw [cmpI_swap, this, ← hv']
    simp only [dw_negs]
    exact (cmpZ_turn _ _).symm
  have hnear : t1 = t2 → e1 ≤ e2 + 24000 ∧ e2 ≤ e1 + 24000 := fun h => by
    unfold rtop at ht1 ht2
    omega
  have Hv := Lib.hid hv'
  clear hv' hz hz2 hV hU ht1 ht2
  go_enter Tryd.func10, Tryd.ntmps10
  go_wp2_with fail
  go_region_held3 (fun w' => w'.cell? ⟨w.heap.size, 0, none⟩ = some (.bool true) ∧ w'.cell? ⟨w.heap.size, 1, none⟩ = some (.slice A n c) ∧ w'.cell? ⟨w.heap.size, 2, none⟩ = some (.int .i64 e1) ∧ w'.cell? ⟨w.heap.size + 1, 0, none⟩ = some (.bool true) ∧ w'.cell? ⟨w.heap.size + 1, 1, none⟩ = some (.slice B m d) ∧ w'.cell? ⟨w.heap.size + 1, 2, none⟩ = some (.int .i64 e2) ∧ Hid (HN w w.heap.size true A n c ds e1 (w.heap.size + 1) true B m d es e2 w'))
    (first | (with_reducible exact H0.out.cells) | (with_reducible assumption))
    (first | (go_at_call 37; (with_reducible refine (HS1.out _ (by with_reducible assumption)).mono ?_); rintro e w1 ⟨rfl, hY⟩) | (go_at_call 37; (with_reducible refine (HS2.out _ (by with_reducible assumption)).mono ?_); rintro e w2 ⟨rfl, hZ⟩))
  have K0 := Lib.hid (hZ.2.2.2.2.2.2.out.below (below_drew _)).cells
  clear hY hZ HS1 HS2 H0
  go_wp2_with fail
  go_region_held3 (fun w' => w'.cell? ⟨w.heap.size, 0, none⟩ = some (.bool true) ∧ w'.cell? ⟨w.heap.size, 1, none⟩ = some (.slice A n c) ∧ w'.cell? ⟨w.heap.size, 2, none⟩ = some (.int .i64 e1) ∧ w'.cell? ⟨w.heap.size + 1, 0, none⟩ = some (.bool true) ∧ w'.cell? ⟨w.heap.size + 1, 1, none⟩ = some (.slice B m d) ∧ w'.cell? ⟨w.heap.size + 1, 2, none⟩ = some (.int .i64 e2) ∧ Hid (HN w w.heap.size true A n c ds e1 (w.heap.size + 1) true B m d es e2 w'))
    (first | (with_reducible exact K0.out) | (with_reducible assumption))
    (first | (go_at_call 38; (with_reducible refine (HT1.out _ (by first | (with_reducible exact K0.out) | (with_reducible assumption))).mono ?_); rintro e w3 ⟨rfl, hY⟩) | (go_at_call 38; (with_reducible refine (HT2.out _ (by with_reducible assumption)).mono ?_); rintro e w4 ⟨rfl, hZ⟩))
  have K4 := Lib.hid (hZ.2.2.2.2.2.2.out.below (below_drew _)).cells
  have H4 := Lib.hid hZ.2.2.2.2.2.2.out
  obtain ⟨x0, x1, x2, y0, y1, y2, _⟩ := hZ
  clear hY K0
  by_cases hq : t1 = t2
  · obtain ⟨hq1, hq2⟩ := hnear hq
    have c1 : (t1 != t2) = false := bne_no hq
    have j1 := H4.out.1.neg_other (b' := w.heap.size + 1) (by omega) (.bool false)
    have j2 := H4.out.2.1.neg_ false
    have j3 := H4.out.2.1.neg_dig H4.out.2.2.1 (.bool false)
    have j4 := H4.out.2.1.neg_dig H4.out.2.2.2.1 (.bool false)
    have j5 := H4.out.2.2.2.2.setCell (p := ⟨w.heap.size + 1, 0, none⟩) (by show w.heap.size ≤ w.heap.size + 1; omega) (.bool false)
    have yf := H4.out.2.1.fz
    obtain ⟨o, ho1, _, _, _, _, _, ho2⟩ := gadd_spec true false (D.val ds) (D.val es) e1 e2 h1 h2 h3 h4 hq1 hq2
    have hso : sgD o.neg o.V = v := by rw [← Hv.out]; exact sgD_sub ho1
    have HA := Lib.hid (ho2 A n c ds B m d es _ j3 j4 HBA.out HBB.out (by omega) (by omega) rfl rfl)
    obtain ⟨og, oV, oE⟩ := o
    have Hso := Lib.hid hso
    clear ho1 ho2 hso
    have HJ := Lib.hid j5
    clear j1 j2 j3 j4 j5 H4 K4 htt hnear hq hq1 hq2 Hv HT1 HT2 HBA HBB bl1 bl2 B1 B2 hn0 hm0
    go_wp2_with fail
    refine HA.out.mono ?_
    rintro e w5 ⟨A5, m5, c5, rs, rfl, hm5, hl5, hd5, hv5, hb5⟩
    have HG := Lib.hid (rsign_l v og A5 m5 c5 rs oE w5 hl5 hd5 (by rw [hv5]; exact Hso.out))
    have HS5 := Lib.hid (HJ.out.trans (hb5.mono HJ.out.size))
    clear hl5 hd5 hv5 hb5 Hso HA HJ x0 x1 x2 y0 y1 y2 yf
    go_wp2_with fail
    refine HG.out.mono ?_
    rintro e w6 ⟨rfl, hb6⟩
    have Hfin := Lib.hid (HS5.out.trans (hb6.mono HS5.out.size))
    clear hb6 HS5 HG
    go_wp2
    go_ret
    exact ⟨rfl, Hfin.out⟩
  · have hvv := htt hq
    have c1 : (t1 != t2) = true := bne_yes hq
    clear htt hnear Hv HBA HBB bl1 bl2 B1 B2 hn0 hm0 H4
    rcases Int.lt_or_le t1 t2 with hlt | hge
    · obtain rfl : v = 1 := by rw [← hvv]; exact cmpI_gt hlt
      have b1 : decide (t1 < t2) = true := decide_eq_true hlt
      clear hvv hq hlt
      go_wp2_with fail
      go_region_held3 (fun w' => w'.cell? ⟨w.heap.size, 0, none⟩ = some (.bool true) ∧ w'.cell? ⟨w.heap.size, 1, none⟩ = some (.slice A n c) ∧ w'.cell? ⟨w.heap.size, 2, none⟩ = some (.int .i64 e1) ∧ w'.cell? ⟨w.heap.size + 1, 0, none⟩ = some (.bool true) ∧ w'.cell? ⟨w.heap.size + 1, 1, none⟩ = some (.slice B m d) ∧ w'.cell? ⟨w.heap.size + 1, 2, none⟩ = some (.int .i64 e2) ∧ Hid (HN w w.heap.size true A n c ds e1 (w.heap.size + 1) true B m d es e2 w'))
        (first | (with_reducible exact K4.out) | (with_reducible assumption))
        (first | (go_at_call 38; (with_reducible refine (HT1.out _ (by first | (with_reducible exact K4.out) | (with_reducible assumption))).mono ?_); rintro e w5 ⟨rfl, hY⟩) | (go_at_call 38; (with_reducible refine (HT2.out _ (by with_reducible assumption)).mono ?_); rintro e w6 ⟨rfl, hZ⟩))
      all_goals (
        have HF := Lib.hid hZ.2.2.2.2.2.2.out.2.2.2.2
        clear hY hZ HT1 HT2 K4 x0 x1 x2 y0 y1 y2
        go_wp2_with fail
        go_ret
        exact ⟨rfl, HF.out⟩)
    · obtain rfl : v = -1 := by rw [← hvv]; exact cmpI_lt (by omega)
      have b1 : decide (t1 < t2) = false := decide_eq_false (by omega)
      clear hvv hq hge
      go_wp2_with fail
      go_region_held3 (fun w' => w'.cell? ⟨w.heap.size, 0, none⟩ = some (.bool true) ∧ w'.cell? ⟨w.heap.size, 1, none⟩ = some (.slice A n c) ∧ w'.cell? ⟨w.heap.size, 2, none⟩ = some (.int .i64 e1) ∧ w'.cell? ⟨w.heap.size + 1, 0, none⟩ = some (.bool true) ∧ w'.cell? ⟨w.heap.size + 1, 1, none⟩ = some (.slice B m d) ∧ w'.cell? ⟨w.heap.size + 1, 2, none⟩ = some (.int .i64 e2) ∧ Hid (HN w w.heap.size true A n c ds e1 (w.heap.size + 1) true B m d es e2 w'))
        (first | (with_reducible exact K4.out) | (with_reducible assumption))
        (first | (go_at_call 38; (with_reducible refine (HT1.out _ (by first | (with_reducible exact K4.out) | (with_reducible assumption))).mono ?_); rintro e w5 ⟨rfl, hY⟩) | (go_at_call 38; (with_reducible refine (HT2.out _ (by with_reducible assumption)).mono ?_); rintro e w6 ⟨rfl, hZ⟩))
      all_goals (
        have HF := Lib.hid hZ.2.2.2.2.2.2.out.2.2.2.2
        clear hY hZ HT1 HT2 K4 x0 x1 x2 y0 y1 y2
        go_wp2_with fail
        go_ret
        exact ⟨rfl, HF.out⟩)

set_option maxHeartbeats 2000000 in
/-- Signs that differ, or noughts. -/
theorem gcmp_signs (v : Int) (g : Bool) (A : Option Addr) (n c : Nat) (ds : List Nat) (e1 : Int) (k : Bool) (B : Option Addr) (m d : Nat) (es : List Nat) (e2 : Int) (w : World) (hA : Dig w A n c ds) (hB : Dig w B m d es) (ba : D.Bare ds) (bb : D.Bare es)
    (h : sgD g (D.val ds) ≠ sgD k (D.val es) ∨ sgD g (D.val ds) = 0) (hv : Hid (cmpI (dw g (D.val ds) e1) (dw k (D.val es) e2) = v)) :
    Calls Tryd.prog 10 #[.agg #[.bool g, .slice A n c, .int .i64 e1], .agg #[.bool k, .slice B m d, .int .i64 e2]] w fun e w' => e = .returned (.int .i64 v) ∧ Below w.heap.size w w' := by
  have hvs : cmpI (sgD g (D.val ds)) (sgD k (D.val es)) = v := by
    rw [← hv.out]
    by_cases hne : sgD g (D.val ds) = sgD k (D.val es)
    · have h0 : sgD g (D.val ds) = 0 := by rcases h with h | h; exact absurd hne h; exact h
      rw [← cmp_noughts hne h0, cmpI_eq hne]
    · exact cmp_signs hne
  obtain ⟨s1, hs1⟩ : ∃ s, sgD g (D.val ds) = s := ⟨_, rfl⟩
  obtain ⟨s2, hs2⟩ : ∃ s, sgD k (D.val es) = s := ⟨_, rfl⟩
  have H0 := Lib.hid ((HN.start w g A n c ds e1 k B m d es e2 hA hB).below (below_drew _))
  have HS1 : Hid (∀ u, CellsN w w.heap.size g A n c ds e1 (w.heap.size + 1) k B m d es e2 u → Calls Tryd.prog 37 #[.agg #[.bool g, .slice A n c, .int .i64 e1]] u fun e w' => e = .returned (.int .i64 s1) ∧ CellsN w w.heap.size g A n c ds e1 (w.heap.size + 1) k B m d es e2 w') := fun u hu => by
    have h := hu.2.2.2.2.2.2.out
    refine (rsign_l s1 g A n c ds e1 u h.2.2.1 ba hs1).mono ?_
    rintro e w' ⟨rfl, hb⟩
    exact ⟨rfl, (h.below hb).cells⟩
  have HS2 : Hid (∀ u, CellsN w w.heap.size g A n c ds e1 (w.heap.size + 1) k B m d es e2 u → Calls Tryd.prog 37 #[.agg #[.bool k, .slice B m d, .int .i64 e2]] u fun e w' => e = .returned (.int .i64 s2) ∧ CellsN w w.heap.size g A n c ds e1 (w.heap.size + 1) k B m d es e2 w') := fun u hu => by
    have h := hu.2.2.2.2.2.2.out
    refine (rsign_l s2 k B m d es e2 u h.2.2.2.1 bb hs2).mono ?_
    rintro e w' ⟨rfl, hb⟩
    exact ⟨rfl, (h.below hb).cells⟩
  rw [hs1, hs2] at hvs
  rw [hs1, hs2] at h
  clear hA hB ba bb hs1 hs2 hv
  have hc : (s1 < s2 ∧ v = -1) ∨ (s1 = s2 ∧ s1 = 0 ∧ v = 0) ∨ (s2 < s1 ∧ v = 1) := by
    rcases Int.lt_trichotomy s1 s2 with h9 | h9 | h9
    · exact Or.inl ⟨h9, by rw [← hvs]; exact cmpI_lt h9⟩
    · exact Or.inr (Or.inl ⟨h9, by rcases h with h | h; exact absurd h9 h; exact h, by rw [← hvs]; exact cmpI_eq h9⟩)
    · exact Or.inr (Or.inr ⟨h9, by rw [← hvs]; exact cmpI_gt h9⟩)
  clear h hvs
  go_enter Tryd.func10, Tryd.ntmps10
  go_wp2_with fail
  go_region_held3 (fun w' => w'.cell? ⟨w.heap.size, 0, none⟩ = some (.bool g) ∧ w'.cell? ⟨w.heap.size, 1, none⟩ = some (.slice A n c) ∧ w'.cell? ⟨w.heap.size, 2, none⟩ = some (.int .i64 e1) ∧ w'.cell? ⟨w.heap.size + 1, 0, none⟩ = some (.bool k) ∧ w'.cell? ⟨w.heap.size + 1, 1, none⟩ = some (.slice B m d) ∧ w'.cell? ⟨w.heap.size + 1, 2, none⟩ = some (.int .i64 e2) ∧ Hid (HN w w.heap.size g A n c ds e1 (w.heap.size + 1) k B m d es e2 w'))
    (first | (with_reducible exact H0.out.cells) | (with_reducible assumption))
    (first | (go_at_call 37; (with_reducible refine (HS1.out _ (by with_reducible assumption)).mono ?_); rintro e w1 ⟨rfl, hY⟩) | (go_at_call 37; (with_reducible refine (HS2.out _ (by with_reducible assumption)).mono ?_); rintro e w2 ⟨rfl, hZ⟩))
  have HF := Lib.hid hZ.2.2.2.2.2.2.out.2.2.2.2
  clear hY hZ HS1 HS2 H0
  rcases hc with ⟨h, rfl⟩ | ⟨rfl, rfl, rfl⟩ | ⟨h, rfl⟩
  · have c1 : (s1 != s2) = true := bne_yes (by omega)
    have c2 : decide (s1 < s2) = true := decide_eq_true h
    clear h
    go_wp2_with fail
    go_ret
    exact ⟨rfl, HF.out⟩
  · go_wp2_with fail
    go_ret
    exact ⟨rfl, HF.out⟩
  · have c1 : (s1 != s2) = true := bne_yes (by omega)
    have c2 : decide (s1 < s2) = false := decide_eq_false (by omega)
    have c3 : decide (s2 < s1) = true := decide_eq_true h
    clear h
    go_wp2_with fail
    go_ret
    exact ⟨rfl, HF.out⟩
/-- The document's Cmp of any two numbers. -/
theorem gcmp_any (v : Int) (g : Bool) (A : Option Addr) (n c : Nat) (ds : List Nat) (e1 : Int) (k : Bool) (B : Option Addr) (m d : Nat) (es : List Nat) (e2 : Int) (w : World) (hA : Dig w A n c ds) (hB : Dig w B m d es) (ba : D.Bare ds) (bb : D.Bare es) (hn : n ≤ 1450) (hm : m ≤ 1450)
    (h1 : -1073741824 ≤ e1) (h2 : e1 ≤ 1073741824) (h3 : -1073741824 ≤ e2) (h4 : e2 ≤ 1073741824) (hv : Hid (cmpI (dw g (D.val ds) e1) (dw k (D.val es) e2) = v)) :
    Calls Tryd.prog 10 #[.agg #[.bool g, .slice A n c, .int .i64 e1], .agg #[.bool k, .slice B m d, .int .i64 e2]] w fun e w' => e = .returned (.int .i64 v) ∧ Below w.heap.size w w' := by
  by_cases h : sgD g (D.val ds) ≠ sgD k (D.val es) ∨ sgD g (D.val ds) = 0
  · exact gcmp_signs v g A n c ds e1 k B m d es e2 w hA hB ba bb h hv
  · have hne : sgD g (D.val ds) ≠ 0 := fun h' => h (Or.inr h')
    have heq : sgD g (D.val ds) = sgD k (D.val es) := Decidable.not_not.1 (fun h' => h (Or.inl h'))
    have hV : D.val ds ≠ 0 := fun h' => hne (by rw [h']; rfl)
    have hU : D.val es ≠ 0 := fun h' => hne (by rw [heq, h']; rfl)
    have hgk : g = k := by
      unfold sgD at heq
      rw [if_neg hV, if_neg hU] at heq
      cases g <;> cases k <;> first | rfl | (exact absurd heq (by decide))
    subst hgk
    cases g
    · refine rncmp_l v A n c ds e1 B m d es e2 w hA hB ba bb hn hm hU h1 h2 h3 h4 ?_
      show cmpZ _ _ = v
      rw [← hv.out]
      simp only [dw_pos]
      exact (cmpZ_keep _ _).symm
    · exact gcmp_neg v A n c ds e1 B m d es e2 w hA hB ba bb hn hm hV hU h1 h2 h3 h4 hv
end Go.Proofs.YtafgooiakmmfkaaDoor
