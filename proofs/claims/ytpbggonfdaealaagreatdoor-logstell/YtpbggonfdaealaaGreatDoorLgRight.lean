/- The walk of planimeterref13.Right: of which numbers the document tells a logarithm (written by law_lright.py). -/
import Derived.Test.YtpbggonfdaealaaGreatDoorLgLog
import Derived.Test.YtpbggonfdaealaaGreatDoorK2
import Derived.Test.YtpbggonfdaealaaGreatDoorK3
import Derived.Test.YtpbggonfdaealaaGreatDoorK1
namespace Go.Proofs.YtpbggonfdaealaaGreatDoor
open Go.RowKit

theorem lfits_no (g : Bool) (A : Option Addr) (n c : Nat) (e0 : Int) (w : World) (h : e0 < -1073741824 ∨ 1073741824 < e0) :
    Calls Tryz.prog 30 #[.agg #[.bool g, .slice A n c, .int .i64 e0]] w fun e w' => e = .returned (.bool false) ∧ Below w.heap.size w w' := by
  have H1 := Lib.hid (below1 w (.cells #[.bool g, .slice A n c, .int .i64 e0] 28))
  rcases h with h | h
  · have b1 : decide (-1073741824 ≤ e0) = false := decide_eq_false (by omega)
    clear h
    go_enter Tryz.func30, Tryz.ntmps30
    go_wp2
    go_ret
    exact ⟨rfl, H1.out⟩
  · have b1 : decide (-1073741824 ≤ e0) = true := decide_eq_true (by omega)
    have b2 : decide (e0 ≤ 1073741824) = false := decide_eq_false (by omega)
    clear h
    go_enter Tryz.func30, Tryz.ntmps30
    go_wp2
    go_ret
    exact ⟨rfl, H1.out⟩

theorem lrbits (b : Nat) (A : Option Addr) (n c : Nat) (ds : List Nat) (w : World) (h : Dig w A n c ds) (hb : D.Bare ds) (hn : n ≤ 1000000) (hv : Hid (blen (D.val ds) = b)) :
    Calls Tryz.prog 32 #[.slice A n c] w fun e w' => e = .returned (.int .i64 (b : Int)) ∧ w = w' := by
  rw [← hv.out]; exact rbits_any A n c ds w h hb hn
/-- May its logarithm be asked? -/
def RightP (g : Bool) (V : Nat) (e : Int) : Prop := (-1073741824 ≤ e ∧ e ≤ 1073741824) ∧ g = false ∧ V ≠ 0 ∧ blen V ≤ 4000 ∧ -1048576 ≤ (blen V : Int) - 1 + e ∧ (blen V : Int) - 1 + e ≤ 1048576
instance (g : Bool) (V : Nat) (e : Int) : Decidable (RightP g V e) := by unfold RightP; infer_instance
theorem right_log {g : Bool} {V : Nat} {e : Int} {d : Dy} (hd : nO g V e = d) : (RightP d.neg d.V d.e → mk g V e = some d ∧ LogD d) ∧ (¬ RightP d.neg d.V d.e → ¬ ∃ d', mk g V e = some d' ∧ LogD d') := by
  have hm := mk_nO g V e
  rw [hd] at hm
  constructor
  · rintro ⟨h1, h2, h3, h4⟩
    have e1 : mk g V e = some d := by
      rw [hm]
      unfold toldD
      rw [if_neg h3, if_neg (by omega)]
    exact ⟨e1, (mk_fine e1).1, h2, h3, h4⟩
  · rintro hn ⟨d', h1, h2⟩
    rw [hm] at h1
    unfold toldD at h1
    split at h1
    · cases h1
      exact h2.2.2.1 rfl
    · split at h1
      · cases h1
      · rename_i hv he
        cases h1
        exact hn ⟨by omega, h2.2.1, hv, h2.2.2.2⟩

/-- A number of the document in its box, its digits. -/
def HoldN3 (w : World) (p : Nat) (g : Bool) (A : Option Addr) (n c : Nat) (ds : List Nat) (e0 : Int) (u : World) : Prop :=
  Bd u p 28 g A n c e0 ∧ Dig u A n c ds ∧ Below w.heap.size w u
section
variable {w : World} {p : Nat} {g : Bool} {A : Option Addr} {n c : Nat} {ds : List Nat} {e0 : Int} {u u' : World}
theorem HoldN3.below (h : HoldN3 w p g A n c ds e0 u) (hb : Below u.heap.size u u') : HoldN3 w p g A n c ds e0 u' :=
  ⟨h.1.below hb, h.2.1.below hb, h.2.2.trans (hb.mono h.2.2.size)⟩
theorem HoldN3.dig (h : HoldN3 w p g A n c ds e0 u) : Dig u A n c ds := h.2.1
theorem HoldN3.all (h : HoldN3 w p g A n c ds e0 u) : Below w.heap.size w u := h.2.2
theorem HoldN3.start (hA : Dig w A n c ds) : HoldN3 w w.heap.size g A n c ds e0 (w.alloc (.cells #[.bool g, .slice A n c, .int .i64 e0] 28)) :=
  ⟨Bd.new _ _ _ _ _ _ _, hA.alloc _, below1 _ _⟩
end

set_option maxHeartbeats 1000000 in
theorem right_far (g : Bool) (A : Option Addr) (n c : Nat) (ds : List Nat) (e0 : Int) (w : World) (hA : Dig w A n c ds) (_ba : D.Bare ds) (_hn : n ≤ 1000000) (hf : ¬ (-1073741824 ≤ e0 ∧ e0 ≤ 1073741824)) :
    Calls Tryz.prog 7 #[.agg #[.bool g, .slice A n c, .int .i64 e0]] w fun e w' => e = .returned (.bool false) ∧ Below w.heap.size w w' := by
  obtain ⟨s, hs⟩ : ∃ s, sgD g (D.val ds) = s := ⟨_, rfl⟩
  obtain ⟨b, hb⟩ : ∃ b, blen (D.val ds) = b := ⟨_, rfl⟩
  obtain ⟨t, ht⟩ : ∃ t, rtop (D.val ds) e0 = t := ⟨_, rfl⟩
  have ht' : (b : Int) - 1 + e0 = t := by rw [← ht, ← hb]; rfl
  have H0 := Lib.hid (HoldN3.start (g := g) (e0 := e0) hA)
  have H1 : Hid (∀ u, Calls Tryz.prog 30 #[.agg #[.bool g, .slice A n c, .int .i64 e0]] u fun e w' => e = .returned (.bool false) ∧ Below u.heap.size u w') := fun u => lfits_no g A n c e0 u (by omega)
  clear hA  hs hb ht ht' hf
  go_enter Tryz.func7, Tryz.ntmps7
  go_wp2_with fail
  refine (H1.out _).mono ?_
  rintro e wH1 ⟨rfl, hB⟩
  replace H0 := Lib.hid (H0.out.below hB)
  clear hB H1
  have x0 := H0.out.1.c0
  have x1 := H0.out.1.c1
  have x2 := H0.out.1.c2
  have Hfin := Lib.hid H0.out.all
  clear H0 x0 x1 x2
  go_wp2
  go_ret
  exact ⟨rfl, Hfin.out⟩

set_option maxHeartbeats 1000000 in
theorem right_sign (g : Bool) (A : Option Addr) (n c : Nat) (ds : List Nat) (e0 : Int) (w : World) (hA : Dig w A n c ds) (ba : D.Bare ds) (_hn : n ≤ 1000000) (hf : -1073741824 ≤ e0 ∧ e0 ≤ 1073741824) (h1 : g = true ∨ D.val ds = 0) :
    Calls Tryz.prog 7 #[.agg #[.bool g, .slice A n c, .int .i64 e0]] w fun e w' => e = .returned (.bool false) ∧ Below w.heap.size w w' := by
  obtain ⟨s, hs⟩ : ∃ s, sgD g (D.val ds) = s := ⟨_, rfl⟩
  obtain ⟨b, hb⟩ : ∃ b, blen (D.val ds) = b := ⟨_, rfl⟩
  obtain ⟨t, ht⟩ : ∃ t, rtop (D.val ds) e0 = t := ⟨_, rfl⟩
  have ht' : (b : Int) - 1 + e0 = t := by rw [← ht, ← hb]; rfl
  have H0 := Lib.hid (HoldN3.start (g := g) (e0 := e0) hA)
  have H1 : Hid (∀ u, Calls Tryz.prog 30 #[.agg #[.bool g, .slice A n c, .int .i64 e0]] u fun e w' => e = .returned (.bool true) ∧ Below u.heap.size u w') := fun u => fits_yes g A n c e0 u hf.1 hf.2
  have H2 : Hid (∀ u, HoldN3 w w.heap.size g A n c ds e0 u → Calls Tryz.prog 31 #[.agg #[.bool g, .slice A n c, .int .i64 e0]] u fun e w' => e = .returned (.int .i64 s) ∧ Below u.heap.size u w') := fun u hu => rsign_l s g A n c ds e0 u hu.dig ba hs
  have hs2 : s ≤ 0 := by
    rw [← hs]
    unfold sgD
    rcases h1 with rfl | h0
    · split <;> decide
    · rw [if_pos h0]; decide
  have c1 : decide (s ≤ (0 : Int)) = true := decide_eq_true (by omega)
  clear hs2
  clear hA ba hs hb ht ht' hf h1
  go_enter Tryz.func7, Tryz.ntmps7
  go_wp2_with fail
  refine (H1.out _).mono ?_
  rintro e wH1 ⟨rfl, hB⟩
  replace H0 := Lib.hid (H0.out.below hB)
  clear hB H1
  have x0 := H0.out.1.c0
  have x1 := H0.out.1.c1
  have x2 := H0.out.1.c2
  go_wp2_with fail
  refine (H2.out _ H0.out).mono ?_
  rintro e wH2 ⟨rfl, hB⟩
  replace H0 := Lib.hid (H0.out.below hB)
  clear hB H2 x0 x1 x2
  have x0 := H0.out.1.c0
  have x1 := H0.out.1.c1
  have x2 := H0.out.1.c2
  have Hfin := Lib.hid H0.out.all
  clear H0 x0 x1 x2
  go_wp2
  go_ret
  exact ⟨rfl, Hfin.out⟩

set_option maxHeartbeats 1000000 in
theorem right_long (g : Bool) (A : Option Addr) (n c : Nat) (ds : List Nat) (e0 : Int) (w : World) (hA : Dig w A n c ds) (ba : D.Bare ds) (hn : n ≤ 1000000) (hf : -1073741824 ≤ e0 ∧ e0 ≤ 1073741824) (h1 : g = false) (h2 : D.val ds ≠ 0) (h3 : 4000 < blen (D.val ds)) :
    Calls Tryz.prog 7 #[.agg #[.bool g, .slice A n c, .int .i64 e0]] w fun e w' => e = .returned (.bool false) ∧ Below w.heap.size w w' := by
  obtain ⟨s, hs⟩ : ∃ s, sgD g (D.val ds) = s := ⟨_, rfl⟩
  obtain ⟨b, hb⟩ : ∃ b, blen (D.val ds) = b := ⟨_, rfl⟩
  obtain ⟨t, ht⟩ : ∃ t, rtop (D.val ds) e0 = t := ⟨_, rfl⟩
  have ht' : (b : Int) - 1 + e0 = t := by rw [← ht, ← hb]; rfl
  have H0 := Lib.hid (HoldN3.start (g := g) (e0 := e0) hA)
  have H1 : Hid (∀ u, Calls Tryz.prog 30 #[.agg #[.bool g, .slice A n c, .int .i64 e0]] u fun e w' => e = .returned (.bool true) ∧ Below u.heap.size u w') := fun u => fits_yes g A n c e0 u hf.1 hf.2
  have H2 : Hid (∀ u, HoldN3 w w.heap.size g A n c ds e0 u → Calls Tryz.prog 31 #[.agg #[.bool g, .slice A n c, .int .i64 e0]] u fun e w' => e = .returned (.int .i64 s) ∧ Below u.heap.size u w') := fun u hu => rsign_l s g A n c ds e0 u hu.dig ba hs
  have H3 : Hid (∀ u, HoldN3 w w.heap.size g A n c ds e0 u → Calls Tryz.prog 32 #[.slice A n c] u fun e w' => e = .returned (.int .i64 (b : Int)) ∧ u = w') := fun u hu => lrbits b A n c ds u hu.dig ba (by omega) hb
  have hs2 : s = 1 := by rw [← hs, h1, sgD, if_neg h2]; rfl
  have c1 : decide (s ≤ (0 : Int)) = false := decide_eq_false (by omega)
  clear hs2
  rw [hb] at h3
  have c2 : decide ((4000 : Int) < (b : Int)) = true := decide_eq_true (by omega)
  have c2n : decide (4000 < b) = true := decide_eq_true (by omega)
  clear hA ba hn hs hb ht ht' hf h1 h2 h3
  go_enter Tryz.func7, Tryz.ntmps7
  go_wp2_with fail
  refine (H1.out _).mono ?_
  rintro e wH1 ⟨rfl, hB⟩
  replace H0 := Lib.hid (H0.out.below hB)
  clear hB H1
  have x0 := H0.out.1.c0
  have x1 := H0.out.1.c1
  have x2 := H0.out.1.c2
  go_wp2_with fail
  refine (H2.out _ H0.out).mono ?_
  rintro e wH2 ⟨rfl, hB⟩
  replace H0 := Lib.hid (H0.out.below hB)
  clear hB H2 x0 x1 x2
  have x0 := H0.out.1.c0
  have x1 := H0.out.1.c1
  have x2 := H0.out.1.c2
  go_wp2_with fail
  refine (H3.out _ H0.out).mono ?_
  rintro e w' ⟨rfl, rfl⟩
  clear H3
  have Hfin := Lib.hid H0.out.all
  clear H0 x0 x1 x2
  go_wp2
  go_ret
  exact ⟨rfl, Hfin.out⟩

set_option maxHeartbeats 1000000 in
theorem right_low (g : Bool) (A : Option Addr) (n c : Nat) (ds : List Nat) (e0 : Int) (w : World) (hA : Dig w A n c ds) (ba : D.Bare ds) (hn : n ≤ 1000000) (hf : -1073741824 ≤ e0 ∧ e0 ≤ 1073741824) (h1 : g = false) (h2 : D.val ds ≠ 0) (h3 : ¬ 4000 < blen (D.val ds)) (h4 : ¬ -1048576 ≤ (blen (D.val ds) : Int) - 1 + e0) :
    Calls Tryz.prog 7 #[.agg #[.bool g, .slice A n c, .int .i64 e0]] w fun e w' => e = .returned (.bool false) ∧ Below w.heap.size w w' := by
  obtain ⟨s, hs⟩ : ∃ s, sgD g (D.val ds) = s := ⟨_, rfl⟩
  obtain ⟨b, hb⟩ : ∃ b, blen (D.val ds) = b := ⟨_, rfl⟩
  obtain ⟨t, ht⟩ : ∃ t, rtop (D.val ds) e0 = t := ⟨_, rfl⟩
  have ht' : (b : Int) - 1 + e0 = t := by rw [← ht, ← hb]; rfl
  have H0 := Lib.hid (HoldN3.start (g := g) (e0 := e0) hA)
  have H1 : Hid (∀ u, Calls Tryz.prog 30 #[.agg #[.bool g, .slice A n c, .int .i64 e0]] u fun e w' => e = .returned (.bool true) ∧ Below u.heap.size u w') := fun u => fits_yes g A n c e0 u hf.1 hf.2
  have H2 : Hid (∀ u, HoldN3 w w.heap.size g A n c ds e0 u → Calls Tryz.prog 31 #[.agg #[.bool g, .slice A n c, .int .i64 e0]] u fun e w' => e = .returned (.int .i64 s) ∧ Below u.heap.size u w') := fun u hu => rsign_l s g A n c ds e0 u hu.dig ba hs
  have H3 : Hid (∀ u, HoldN3 w w.heap.size g A n c ds e0 u → Calls Tryz.prog 32 #[.slice A n c] u fun e w' => e = .returned (.int .i64 (b : Int)) ∧ u = w') := fun u hu => lrbits b A n c ds u hu.dig ba (by omega) hb
  have H4 : Hid (∀ u, HoldN3 w w.heap.size g A n c ds e0 u → Calls Tryz.prog 9 #[.agg #[.bool g, .slice A n c, .int .i64 e0]] u fun e w' => e = .returned (.int .i64 t) ∧ Below u.heap.size u w') := fun u hu => rtop_l t g A n c ds e0 u hu.dig ba (by omega) (by omega) (by omega) ht
  have hs2 : s = 1 := by rw [← hs, h1, sgD, if_neg h2]; rfl
  have c1 : decide (s ≤ (0 : Int)) = false := decide_eq_false (by omega)
  clear hs2
  rw [hb, ht'] at h4
  rw [hb] at h3
  have c2 : decide ((4000 : Int) < (b : Int)) = false := decide_eq_false (by omega)
  have c2n : decide (4000 < b) = false := decide_eq_false (by omega)
  have c3 : decide ((-1048576 : Int) ≤ t) = false := decide_eq_false (by omega)
  clear hA ba hn hs hb ht ht' hf h1 h2 h3 h4
  go_enter Tryz.func7, Tryz.ntmps7
  go_wp2_with fail
  refine (H1.out _).mono ?_
  rintro e wH1 ⟨rfl, hB⟩
  replace H0 := Lib.hid (H0.out.below hB)
  clear hB H1
  have x0 := H0.out.1.c0
  have x1 := H0.out.1.c1
  have x2 := H0.out.1.c2
  go_wp2_with fail
  refine (H2.out _ H0.out).mono ?_
  rintro e wH2 ⟨rfl, hB⟩
  replace H0 := Lib.hid (H0.out.below hB)
  clear hB H2 x0 x1 x2
  have x0 := H0.out.1.c0
  have x1 := H0.out.1.c1
  have x2 := H0.out.1.c2
  go_wp2_with fail
  refine (H3.out _ H0.out).mono ?_
  rintro e w' ⟨rfl, rfl⟩
  clear H3
  go_wp2_with fail
  refine (H4.out _ H0.out).mono ?_
  rintro e wH4 ⟨rfl, hB⟩
  replace H0 := Lib.hid (H0.out.below hB)
  clear hB H4 x0 x1 x2
  have x0 := H0.out.1.c0
  have x1 := H0.out.1.c1
  have x2 := H0.out.1.c2
  have Hfin := Lib.hid H0.out.all
  clear H0 x0 x1 x2
  go_wp2
  go_ret
  exact ⟨rfl, Hfin.out⟩

set_option maxHeartbeats 1000000 in
theorem right_high (g : Bool) (A : Option Addr) (n c : Nat) (ds : List Nat) (e0 : Int) (w : World) (hA : Dig w A n c ds) (ba : D.Bare ds) (hn : n ≤ 1000000) (hf : -1073741824 ≤ e0 ∧ e0 ≤ 1073741824) (h1 : g = false) (h2 : D.val ds ≠ 0) (h3 : ¬ 4000 < blen (D.val ds)) (h4 : 1048576 < (blen (D.val ds) : Int) - 1 + e0) :
    Calls Tryz.prog 7 #[.agg #[.bool g, .slice A n c, .int .i64 e0]] w fun e w' => e = .returned (.bool false) ∧ Below w.heap.size w w' := by
  obtain ⟨s, hs⟩ : ∃ s, sgD g (D.val ds) = s := ⟨_, rfl⟩
  obtain ⟨b, hb⟩ : ∃ b, blen (D.val ds) = b := ⟨_, rfl⟩
  obtain ⟨t, ht⟩ : ∃ t, rtop (D.val ds) e0 = t := ⟨_, rfl⟩
  have ht' : (b : Int) - 1 + e0 = t := by rw [← ht, ← hb]; rfl
  have H0 := Lib.hid (HoldN3.start (g := g) (e0 := e0) hA)
  have H1 : Hid (∀ u, Calls Tryz.prog 30 #[.agg #[.bool g, .slice A n c, .int .i64 e0]] u fun e w' => e = .returned (.bool true) ∧ Below u.heap.size u w') := fun u => fits_yes g A n c e0 u hf.1 hf.2
  have H2 : Hid (∀ u, HoldN3 w w.heap.size g A n c ds e0 u → Calls Tryz.prog 31 #[.agg #[.bool g, .slice A n c, .int .i64 e0]] u fun e w' => e = .returned (.int .i64 s) ∧ Below u.heap.size u w') := fun u hu => rsign_l s g A n c ds e0 u hu.dig ba hs
  have H3 : Hid (∀ u, HoldN3 w w.heap.size g A n c ds e0 u → Calls Tryz.prog 32 #[.slice A n c] u fun e w' => e = .returned (.int .i64 (b : Int)) ∧ u = w') := fun u hu => lrbits b A n c ds u hu.dig ba (by omega) hb
  have H4 : Hid (∀ u, HoldN3 w w.heap.size g A n c ds e0 u → Calls Tryz.prog 9 #[.agg #[.bool g, .slice A n c, .int .i64 e0]] u fun e w' => e = .returned (.int .i64 t) ∧ Below u.heap.size u w') := fun u hu => rtop_l t g A n c ds e0 u hu.dig ba (by omega) (by omega) (by omega) ht
  have hs2 : s = 1 := by rw [← hs, h1, sgD, if_neg h2]; rfl
  have c1 : decide (s ≤ (0 : Int)) = false := decide_eq_false (by omega)
  clear hs2
  rw [hb, ht'] at h4
  rw [hb] at h3
  have c2 : decide ((4000 : Int) < (b : Int)) = false := decide_eq_false (by omega)
  have c2n : decide (4000 < b) = false := decide_eq_false (by omega)
  have c3 : decide ((-1048576 : Int) ≤ t) = true := decide_eq_true (by omega)
  have c4 : decide (t ≤ (1048576 : Int)) = false := decide_eq_false (by omega)
  clear hA ba hn hs hb ht ht' hf h1 h2 h3 h4
  go_enter Tryz.func7, Tryz.ntmps7
  go_wp2_with fail
  refine (H1.out _).mono ?_
  rintro e wH1 ⟨rfl, hB⟩
  replace H0 := Lib.hid (H0.out.below hB)
  clear hB H1
  have x0 := H0.out.1.c0
  have x1 := H0.out.1.c1
  have x2 := H0.out.1.c2
  go_wp2_with fail
  refine (H2.out _ H0.out).mono ?_
  rintro e wH2 ⟨rfl, hB⟩
  replace H0 := Lib.hid (H0.out.below hB)
  clear hB H2 x0 x1 x2
  have x0 := H0.out.1.c0
  have x1 := H0.out.1.c1
  have x2 := H0.out.1.c2
  go_wp2_with fail
  refine (H3.out _ H0.out).mono ?_
  rintro e w' ⟨rfl, rfl⟩
  clear H3
  go_wp2_with fail
  refine (H4.out _ H0.out).mono ?_
  rintro e wH4 ⟨rfl, hB⟩
  replace H0 := Lib.hid (H0.out.below hB)
  clear hB H4 x0 x1 x2
  have x0 := H0.out.1.c0
  have x1 := H0.out.1.c1
  have x2 := H0.out.1.c2
  have Hfin := Lib.hid H0.out.all
  clear H0 x0 x1 x2
  go_wp2
  go_ret
  exact ⟨rfl, Hfin.out⟩

set_option maxHeartbeats 1000000 in
theorem right_yes (g : Bool) (A : Option Addr) (n c : Nat) (ds : List Nat) (e0 : Int) (w : World) (hA : Dig w A n c ds) (ba : D.Bare ds) (hn : n ≤ 1000000) (hf : -1073741824 ≤ e0 ∧ e0 ≤ 1073741824) (h1 : g = false) (h2 : D.val ds ≠ 0) (h3 : ¬ 4000 < blen (D.val ds)) (h4 : -1048576 ≤ (blen (D.val ds) : Int) - 1 + e0 ∧ (blen (D.val ds) : Int) - 1 + e0 ≤ 1048576) :
    Calls Tryz.prog 7 #[.agg #[.bool g, .slice A n c, .int .i64 e0]] w fun e w' => e = .returned (.bool true) ∧ Below w.heap.size w w' := by
  obtain ⟨s, hs⟩ : ∃ s, sgD g (D.val ds) = s := ⟨_, rfl⟩
  obtain ⟨b, hb⟩ : ∃ b, blen (D.val ds) = b := ⟨_, rfl⟩
  obtain ⟨t, ht⟩ : ∃ t, rtop (D.val ds) e0 = t := ⟨_, rfl⟩
  have ht' : (b : Int) - 1 + e0 = t := by rw [← ht, ← hb]; rfl
  have H0 := Lib.hid (HoldN3.start (g := g) (e0 := e0) hA)
  have H1 : Hid (∀ u, Calls Tryz.prog 30 #[.agg #[.bool g, .slice A n c, .int .i64 e0]] u fun e w' => e = .returned (.bool true) ∧ Below u.heap.size u w') := fun u => fits_yes g A n c e0 u hf.1 hf.2
  have H2 : Hid (∀ u, HoldN3 w w.heap.size g A n c ds e0 u → Calls Tryz.prog 31 #[.agg #[.bool g, .slice A n c, .int .i64 e0]] u fun e w' => e = .returned (.int .i64 s) ∧ Below u.heap.size u w') := fun u hu => rsign_l s g A n c ds e0 u hu.dig ba hs
  have H3 : Hid (∀ u, HoldN3 w w.heap.size g A n c ds e0 u → Calls Tryz.prog 32 #[.slice A n c] u fun e w' => e = .returned (.int .i64 (b : Int)) ∧ u = w') := fun u hu => lrbits b A n c ds u hu.dig ba (by omega) hb
  have H4 : Hid (∀ u, HoldN3 w w.heap.size g A n c ds e0 u → Calls Tryz.prog 9 #[.agg #[.bool g, .slice A n c, .int .i64 e0]] u fun e w' => e = .returned (.int .i64 t) ∧ Below u.heap.size u w') := fun u hu => rtop_l t g A n c ds e0 u hu.dig ba (by omega) (by omega) (by omega) ht
  have hs2 : s = 1 := by rw [← hs, h1, sgD, if_neg h2]; rfl
  have c1 : decide (s ≤ (0 : Int)) = false := decide_eq_false (by omega)
  clear hs2
  rw [hb, ht'] at h4
  rw [hb] at h3
  have c2 : decide ((4000 : Int) < (b : Int)) = false := decide_eq_false (by omega)
  have c2n : decide (4000 < b) = false := decide_eq_false (by omega)
  have c3 : decide ((-1048576 : Int) ≤ t) = true := decide_eq_true (by omega)
  have c4 : decide (t ≤ (1048576 : Int)) = true := decide_eq_true (by omega)
  clear hA ba hn hs hb ht ht' hf h1 h2 h3 h4
  go_enter Tryz.func7, Tryz.ntmps7
  go_wp2_with fail
  refine (H1.out _).mono ?_
  rintro e wH1 ⟨rfl, hB⟩
  replace H0 := Lib.hid (H0.out.below hB)
  clear hB H1
  have x0 := H0.out.1.c0
  have x1 := H0.out.1.c1
  have x2 := H0.out.1.c2
  go_wp2_with fail
  refine (H2.out _ H0.out).mono ?_
  rintro e wH2 ⟨rfl, hB⟩
  replace H0 := Lib.hid (H0.out.below hB)
  clear hB H2 x0 x1 x2
  have x0 := H0.out.1.c0
  have x1 := H0.out.1.c1
  have x2 := H0.out.1.c2
  go_wp2_with fail
  refine (H3.out _ H0.out).mono ?_
  rintro e w' ⟨rfl, rfl⟩
  clear H3
  go_wp2_with fail
  refine (H4.out _ H0.out).mono ?_
  rintro e wH4 ⟨rfl, hB⟩
  replace H0 := Lib.hid (H0.out.below hB)
  clear hB H4 x0 x1 x2
  have x0 := H0.out.1.c0
  have x1 := H0.out.1.c1
  have x2 := H0.out.1.c2
  have Hfin := Lib.hid H0.out.all
  clear H0 x0 x1 x2
  go_wp2
  go_ret
  exact ⟨rfl, Hfin.out⟩

theorem rright_l (v : Bool) (g : Bool) (A : Option Addr) (n c : Nat) (ds : List Nat) (e0 : Int) (w : World) (hA : Dig w A n c ds) (ba : D.Bare ds) (hn : n ≤ 1000000) (hv : Hid (decide (RightP g (D.val ds) e0) = v)) :
    Calls Tryz.prog 7 #[.agg #[.bool g, .slice A n c, .int .i64 e0]] w fun e w' => e = .returned (.bool v) ∧ Below w.heap.size w w' := by
  by_cases hf : -1073741824 ≤ e0 ∧ e0 ≤ 1073741824
  · by_cases h1 : g = true ∨ D.val ds = 0
    · obtain rfl : v = false := by
        rw [← hv.out]
        refine decide_eq_false fun h => ?_
        rcases h1 with h1 | h1
        · rw [h.2.1] at h1; cases h1
        · exact h.2.2.1 h1
      exact right_sign g A n c ds e0 w hA ba hn hf h1
    · have hg : g = false := by cases g; rfl; exact absurd (Or.inl rfl) h1
      have h0 : D.val ds ≠ 0 := fun h => h1 (Or.inr h)
      by_cases h3 : 4000 < blen (D.val ds)
      · obtain rfl : v = false := by rw [← hv.out]; exact decide_eq_false fun h => by have := h.2.2.2.1; omega
        exact right_long g A n c ds e0 w hA ba hn hf hg h0 h3
      · by_cases h4 : -1048576 ≤ (blen (D.val ds) : Int) - 1 + e0
        · by_cases h5 : (blen (D.val ds) : Int) - 1 + e0 ≤ 1048576
          · obtain rfl : v = true := by rw [← hv.out]; exact decide_eq_true ⟨hf, hg, h0, by omega, h4, h5⟩
            exact right_yes g A n c ds e0 w hA ba hn hf hg h0 h3 ⟨h4, h5⟩
          · obtain rfl : v = false := by rw [← hv.out]; exact decide_eq_false fun h => h5 h.2.2.2.2.2
            exact right_high g A n c ds e0 w hA ba hn hf hg h0 h3 (by omega)
        · obtain rfl : v = false := by rw [← hv.out]; exact decide_eq_false fun h => h4 h.2.2.2.2.1
          exact right_low g A n c ds e0 w hA ba hn hf hg h0 h3 h4
  · obtain rfl : v = false := by rw [← hv.out]; exact decide_eq_false fun h => hf h.1
    exact right_far g A n c ds e0 w hA ba hn hf
end Go.Proofs.YtpbggonfdaealaaGreatDoor
