/- The walk of planimeterlaw09.whole. -/
import Derived.Test.YtfccpjjdemanbaaDdLaw
import Derived.Deep.CutBlock
namespace Go.Proofs.Ytfccpjjdemanbaa
open Go.RowKit

/-- A pair and a number in their boxes. -/
def HoldW (w0 : World) (h l : Nat) (g : Bool) (A : Option Addr) (n c : Nat) (ds : List Nat) (e0 : Int) (w : World) : Prop :=
  Pb w w0.heap.size h l ∧ Bd w (w0.heap.size + 1) 29 g A n c e0 ∧ Dig w A n c ds ∧ Below w0.heap.size w0 w
abbrev CellsW (w0 : World) (h l : Nat) (g : Bool) (A : Option Addr) (n c : Nat) (e0 : Int) (w' : World) : Prop :=
  w'.cell? ⟨w0.heap.size, 0, none⟩ = some (.float .f64 h) ∧ w'.cell? ⟨w0.heap.size, 1, none⟩ = some (.float .f64 l) ∧ w'.cell? ⟨w0.heap.size + 1, 0, none⟩ = some (.bool g) ∧ w'.cell? ⟨w0.heap.size + 1, 1, none⟩ = some (.slice A n c) ∧ w'.cell? ⟨w0.heap.size + 1, 2, none⟩ = some (.int .i64 e0)
section
variable {w0 : World} {h l : Nat} {g : Bool} {A : Option Addr} {n c : Nat} {ds : List Nat} {e0 : Int} {w w' : World}
theorem HoldW.below (hh : HoldW w0 h l g A n c ds e0 w) (hb : Below w.heap.size w w') : HoldW w0 h l g A n c ds e0 w' :=
  ⟨hh.1.below hb, hh.2.1.below hb, hh.2.2.1.below hb, hh.2.2.2.trans (hb.mono hh.2.2.2.size)⟩
theorem HoldW.cells (hh : HoldW w0 h l g A n c ds e0 w) : CellsW w0 h l g A n c e0 w := ⟨hh.1.c0, hh.1.c1, hh.2.1.c0, hh.2.1.c1, hh.2.1.c2⟩
theorem HoldW.dig (hh : HoldW w0 h l g A n c ds e0 w) : Dig w A n c ds := hh.2.2.1
theorem HoldW.old (hh : HoldW w0 h l g A n c ds e0 w) : Below w0.heap.size w0 w := hh.2.2.2
end
theorem HoldW.start (w : World) (h l : Nat) (g : Bool) (A : Option Addr) (n c : Nat) (ds : List Nat) (e0 : Int) (hA : Dig w A n c ds) :
    HoldW w h l g A n c ds e0 ((w.alloc (.cells #[.float .f64 h, .float .f64 l] 33)).alloc (.cells #[.bool g, .slice A n c, .int .i64 e0] 29)) := by
  have b1 := (Pb.new w h l).alloc (.cells #[.bool g, .slice A n c, .int .i64 e0] 29)
  have b2 := Bd.new (w.alloc (.cells #[.float .f64 h, .float .f64 l] 33)) 29 g A n c e0
  rw [World.size_alloc] at b2
  exact ⟨b1, b2, (hA.alloc _).alloc _, ((Below.refl _ _).alloc (Nat.le_refl _) _).alloc (by simp) _⟩

/-- A number in memory: digits of value V. -/
def Mn (w : World) (V : Nat) (A : Option Addr) (m c : Nat) (es : List Nat) : Prop := Dig w A m c es ∧ D.Bare es ∧ D.val es = V
theorem Mn.below {w w' : World} {V : Nat} {A : Option Addr} {m c : Nat} {es : List Nat} (h : Mn w V A m c es) (hb : Below w.heap.size w w') : Mn w' V A m c es := ⟨h.1.below hb, h.2⟩
theorem Mn.len {w : World} {V : Nat} {A : Option Addr} {m c : Nat} {es : List Nat} (h : Mn w V A m c es) {k j : Nat} (hV : V ≤ 2 ^ k) (hk : k < 16 * j) : m ≤ j := by
  have := dig_len (k := j) h.2.1 (by rw [h.2.2]; exact Nat.lt_of_le_of_lt hV (Nat.pow_lt_pow_right (by decide) hk))
  rw [h.1.len] at this
  exact this

/-- What the document's sum of two float64 is. -/
theorem sum_o {h l k : Nat} (hh : Nb k h) (hl : Nb k l) : ∃ o : Dy, Wu o (fvI h + fvI l) ∧ o.V ≤ 2 ^ (k + 1) ∧ -1074 ≤ o.e ∧ o.e ≤ 1024 ∧ AddsTo (fO h).neg (fO l).neg (fO h).V (fO l).V (fO h).e (fO l).e o := by
  have x1 := fO_exp hh.2.1
  have x2 := fO_exp hl.2.1
  obtain ⟨o, h1, h2, h3, h4, h5, h6, h7⟩ := gadd_spec (fO h).neg (fO l).neg (fO h).V (fO l).V (fO h).e (fO l).e (by omega) (by omega) (by omega) (by omega) (by omega) (by omega)
  have hw := wu_add (fO_wu hh.2.1) (fO_wu hl.2.1) h1
  exact ⟨o, hw, wu_bits (q := 0) hw h2 h3 (add_le hh.2.2 hl.2.2) (by omega), by omega, by omega, h7⟩

set_option maxHeartbeats 2000000 in
theorem whole_w {h l k : Nat} (hh : Nb k h) (hl : Nb k l) (hk : k ≤ 2090) (g : Bool) (A : Option Addr) (n c : Nat) (ds : List Nat) (e0 : Int) (w : World) (hA : Dig w A n c ds) (ba : D.Bare ds) (hn : n ≤ 240) (h1 : -1073741824 ≤ e0) (h2 : e0 ≤ 1073741824) (hw : Wu ⟨g, D.val ds, e0⟩ (fvI h + fvI l)) :
    Calls Try.prog 15 #[.agg #[.float .f64 h, .float .f64 l], .agg #[.bool g, .slice A n c, .int .i64 e0]] w fun e w' => e = .returned (.bool true) ∧ Below w.heap.size w w' := by
  obtain ⟨⟨og, oV, oE⟩, o1, o2, o3, o4, o5⟩ := sum_o hh hl
  have HF1 := Lib.hid (finite_w h hh.1 hh.2.1)
  have HF2 := Lib.hid (finite_w l hl.1 hl.2.1)
  have HW1 := worth_w h hh.1
  have HW2 := worth_w l hl.1
  generalize fO h = d1 at *
  generalize fO l = d2 at *
  obtain ⟨g1, V1, E1⟩ := d1
  obtain ⟨g2, V2, E2⟩ := d2
  have HW1 : Hid (∀ u, Calls Try.prog 12 #[.float .f64 h] u (NTold u ⟨g1, V1, E1⟩ 4)) := HW1
  have HW2 : Hid (∀ u, Calls Try.prog 12 #[.float .f64 l] u (NTold u ⟨g2, V2, E2⟩ 4)) := HW2
  have HA : Hid (∀ u A1 m1 c1 es1 A2 m2 c2 es2, Mn u V1 A1 m1 c1 es1 → Mn u V2 A2 m2 c2 es2 → m1 ≤ 4 → m2 ≤ 4 →
      Calls Try.prog 11 #[.agg #[.bool g1, .slice A1 m1 c1, .int .i64 E1], .agg #[.bool g2, .slice A2 m2 c2, .int .i64 E2]] u (NTold u ⟨og, oV, oE⟩ 132)) := fun u A1 m1 c1 es1 A2 m2 c2 es2 k1 k2 m1 m2 => by
    refine (o5 A1 _ c1 es1 A2 _ c2 es2 u k1.1 k2.1 k1.2.1 k2.2.1 (by omega) (by omega) k1.2.2 k2.2.2).mono ?_
    rintro e w' ⟨A5, m5, c5, rs, rfl, j1, j2, j3, j4, j5⟩
    exact ⟨A5, m5, c5, rs, rfl, Mn.len (k := k + 1) ⟨j2, j3, j4⟩ o2 (by omega), j2, j3, j4, j5⟩
  have hz : cmpI (dw og oV oE) (dw g (D.val ds) e0) = 0 := cmpI_eq (by
    have q1 : dw og oV oE = _ := o1
    have q2 : dw g (D.val ds) e0 = _ := hw
    rw [q1, q2])
  have HC : Hid (∀ u A3 m3 c3 es3, Mn u oV A3 m3 c3 es3 → m3 ≤ 132 → Dig u A n c ds →
      Calls Try.prog 38 #[.agg #[.bool og, .slice A3 m3 c3, .int .i64 oE], .agg #[.bool g, .slice A n c, .int .i64 e0]] u fun e w' => e = .returned (.int .i64 0) ∧ Below u.heap.size u w') := fun u A3 m3 c3 es3 k1 k2 k3 =>
    gcmp_any 0 og A3 m3 c3 es3 oE g A n c ds e0 u k1.1 k3 k1.2.1 ba (by omega) hn (by have : -1074 ≤ oE := o3; omega) (by have : oE ≤ 1024 := o4; omega) h1 h2 (by show cmpI _ _ = _; rw [k1.2.2]; exact hz)
  have h0 := HoldW.start w h l g A n c ds e0 hA
  have cur := Lib.hid (h0.below (below_drew _))
  clear o1 o2 o3 o4 o5 hz hA ba hn h1 h2 hw hh hl hk h0
  go_enter Try.func15, Try.ntmps15
  go_wp2_with fail
  go_region_held3 (fun w' => CellsW w h l g A n c e0 w')
    (first | (with_reducible exact cur.out.cells))
    (first
      | (go_at_call 37; (with_reducible refine (HF1.out _).mono ?_); rintro e w' ⟨rfl, rfl⟩)
      | (go_at_call 37; (with_reducible refine (HF2.out _).mono ?_); rintro e w' ⟨rfl, rfl⟩)
      | (go_at_call 12; (with_reducible refine (HW1.out _).mono ?_); rintro e wa ⟨A1, m1, c1, es1, rfl, hm1, hl1, hd1, hv1, hB1⟩; (with_reducible (replace cur := Lib.hid (cur.out.below hB1))); (first | (with_reducible (replace L2 := Lib.hid (L2.out.below hB1))) | skip); have L1 : Hid (Mn wa V1 A1 m1 c1 es1) := ⟨hl1, hd1, hv1⟩; clear hl1 hd1 hv1 hB1)
      | (go_at_call 12; (with_reducible refine (HW2.out _).mono ?_); rintro e wb ⟨A2, m2, c2, es2, rfl, hm2, hl2, hd2, hv2, hB2⟩; (with_reducible (replace cur := Lib.hid (cur.out.below hB2))); (first | (with_reducible (replace L1 := Lib.hid (L1.out.below hB2))) | skip); have L2 : Hid (Mn wb V2 A2 m2 c2 es2) := ⟨hl2, hd2, hv2⟩; clear hl2 hd2 hv2 hB2)
      | (go_at_call 11; (with_reducible refine (HA.out _ A1 m1 c1 es1 A2 m2 c2 es2 L1.out L2.out hm1 hm2).mono ?_); rintro e wd ⟨A3, m3, c3, es3, rfl, hm3, hl3, hd3, hv3, hB3⟩; (with_reducible (replace cur := Lib.hid (cur.out.below hB3))); have L3 : Hid (Mn wd oV A3 m3 c3 es3) := ⟨hl3, hd3, hv3⟩; clear hl3 hd3 hv3 hB3)
      | (go_at_call 38; (with_reducible refine (HC.out _ A3 m3 c3 es3 L3.out hm3 cur.out.dig).mono ?_); rintro e wf ⟨rfl, hB4⟩; (with_reducible (replace cur := Lib.hid (cur.out.below hB4))); clear hB4))
  all_goals (
    clear HF1 HF2 HW1 HW2 HA HC
    go_wp2
    go_ret
    exact ⟨rfl, cur.out.old⟩)
end Go.Proofs.Ytfccpjjdemanbaa
