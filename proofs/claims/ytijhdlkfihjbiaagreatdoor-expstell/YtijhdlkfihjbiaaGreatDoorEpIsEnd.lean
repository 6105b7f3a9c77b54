/- The walks of exps.isEnd and of exps.ends (written by law_eless.py). -/
import Derived.Test.YtijhdlkfihjbiaaGreatDoorEpWords
import Derived.Test.YtijhdlkfihjbiaaGreatDoorK6
import Derived.Test.YtijhdlkfihjbiaaGreatDoorK4
namespace Go.Proofs.YtijhdlkfihjbiaaGreatDoor
open Go.RowKit

instance (d : Dy) : Decidable (Mid d) := by unfold Mid; infer_instance

set_option maxHeartbeats 1000000 in
set_option maxRecDepth 20000 in
theorem isend_nil (g : Bool) (A : Option Addr) (n c : Nat) (xs : List Nat) (e0 : Int) (w : World) (hA : Lim w A n c xs) (hn : n ≤ 4294967296) (hf : Fine ⟨g, val xs, e0⟩) (h0 : val xs = 0) :
    Calls Tryz.prog 70 #[.agg #[.bool g, .slice A n c, .int .i64 e0]] w fun e w' => e = .returned (.bool true) ∧ Below w.heap.size w w' := by
  have a1 := below1 w (.cells #[.bool g, .slice A n c, .int .i64 e0] 32)
  have b1 := Bd.new w 32 g A n c e0
  obtain ⟨b, hb⟩ : ∃ b, blen (val xs) = b := ⟨_, rfl⟩
  have Hb := Lib.hid hb
  have hbl := hA.blen_le
  have hf1 := hf.1
  have hf2 := hf.2.1
  dsimp only at hf1 hf2
  have e00 : e0 = 0 := (hf.2.2 h0).2
  have b00 : b = 0 := by rw [← hb, h0]; rfl
  have d1 : decide ((b : Int) ≤ 20000) = true := decide_eq_true (by omega)
  have H1 := Lib.hid (top_nought g A n c xs e0 _ (hA.below a1) hn h0)
  have d2 : decide ((-20000 : Int) ≤ e0) = true := decide_eq_true (by omega)
  clear b00 e00
  have HA := Lib.hid (hA.below a1)
  have HS := Lib.hid a1
  have HB := Lib.hid b1
  clear hA hf h0 hb a1 b1
  go_enter Tryz.func70, Tryz.ntmps70
  go_wp2_with fail
  refine H1.out.mono ?_
  rintro e w1 ⟨rfl, hB1⟩
  replace HB := Lib.hid (HB.out.below hB1)
  replace HA := Lib.hid (HA.out.below hB1)
  replace HS := Lib.hid (HS.out.trans (hB1.mono HS.out.size))
  have x1 := HB.out.c1
  have x2 := HB.out.c2
  have H2 := Lib.hid (bits_l b A n c xs w1 HA.out (by omega) Hb)
  clear hB1 H1
  go_wp2_with fail
  refine H2.out.mono ?_
  rintro e w' ⟨rfl, rfl⟩
  have Hfin := Lib.hid HS.out
  clear H2 HS HA HB Hb
  go_wp2
  go_ret
  exact ⟨rfl, Hfin.out⟩

set_option maxHeartbeats 1000000 in
set_option maxRecDepth 20000 in
theorem isend_long (g : Bool) (A : Option Addr) (n c : Nat) (xs : List Nat) (e0 : Int) (w : World) (hA : Lim w A n c xs) (hn : n ≤ 4294967296) (hf : Fine ⟨g, val xs, e0⟩) (h0 : val xs ≠ 0) (h1 : ¬ blen (val xs) ≤ 20000) :
    Calls Tryz.prog 70 #[.agg #[.bool g, .slice A n c, .int .i64 e0]] w fun e w' => e = .returned (.bool false) ∧ Below w.heap.size w w' := by
  have a1 := below1 w (.cells #[.bool g, .slice A n c, .int .i64 e0] 32)
  have b1 := Bd.new w 32 g A n c e0
  obtain ⟨b, hb⟩ : ∃ b, blen (val xs) = b := ⟨_, rfl⟩
  have Hb := Lib.hid hb
  have hbl := hA.blen_le
  have hf1 := hf.1
  have hf2 := hf.2.1
  dsimp only at hf1 hf2
  obtain ⟨t, ht⟩ : ∃ t, topD (val xs) e0 = t := ⟨_, rfl⟩
  have H1 := Lib.hid (top_l t g A n c xs e0 _ (hA.below a1) hn h0 ht)
  have ht' : t = (b : Int) - 1 + e0 := by
    rw [← ht]
    unfold topD
    rw [hb, held_id hf1 hf2]
  have d1 : decide ((b : Int) ≤ 20000) = false := decide_eq_false (by omega)
  clear ht' ht
  have HA := Lib.hid (hA.below a1)
  have HS := Lib.hid a1
  have HB := Lib.hid b1
  clear hA hf h0 hb a1 b1
  go_enter Tryz.func70, Tryz.ntmps70
  go_wp2_with fail
  refine H1.out.mono ?_
  rintro e w1 ⟨rfl, hB1⟩
  replace HB := Lib.hid (HB.out.below hB1)
  replace HA := Lib.hid (HA.out.below hB1)
  replace HS := Lib.hid (HS.out.trans (hB1.mono HS.out.size))
  have x1 := HB.out.c1
  have x2 := HB.out.c2
  have H2 := Lib.hid (bits_l b A n c xs w1 HA.out (by omega) Hb)
  clear hB1 H1
  go_wp2_with fail
  refine H2.out.mono ?_
  rintro e w' ⟨rfl, rfl⟩
  have Hfin := Lib.hid HS.out
  clear H2 HS HA HB Hb
  go_wp2
  go_ret
  exact ⟨rfl, Hfin.out⟩

set_option maxHeartbeats 1000000 in
set_option maxRecDepth 20000 in
theorem isend_low (g : Bool) (A : Option Addr) (n c : Nat) (xs : List Nat) (e0 : Int) (w : World) (hA : Lim w A n c xs) (hn : n ≤ 4294967296) (hf : Fine ⟨g, val xs, e0⟩) (h0 : val xs ≠ 0) (h1 : blen (val xs) ≤ 20000) (h2 : ¬ -20000 ≤ e0) :
    Calls Tryz.prog 70 #[.agg #[.bool g, .slice A n c, .int .i64 e0]] w fun e w' => e = .returned (.bool false) ∧ Below w.heap.size w w' := by
  have a1 := below1 w (.cells #[.bool g, .slice A n c, .int .i64 e0] 32)
  have b1 := Bd.new w 32 g A n c e0
  obtain ⟨b, hb⟩ : ∃ b, blen (val xs) = b := ⟨_, rfl⟩
  have Hb := Lib.hid hb
  have hbl := hA.blen_le
  have hf1 := hf.1
  have hf2 := hf.2.1
  dsimp only at hf1 hf2
  obtain ⟨t, ht⟩ : ∃ t, topD (val xs) e0 = t := ⟨_, rfl⟩
  have H1 := Lib.hid (top_l t g A n c xs e0 _ (hA.below a1) hn h0 ht)
  have ht' : t = (b : Int) - 1 + e0 := by
    rw [← ht]
    unfold topD
    rw [hb, held_id hf1 hf2]
  have d1 : decide ((b : Int) ≤ 20000) = true := decide_eq_true (by omega)
  have d2 : decide ((-20000 : Int) ≤ e0) = false := decide_eq_false (by omega)
  clear ht' ht
  have HA := Lib.hid (hA.below a1)
  have HS := Lib.hid a1
  have HB := Lib.hid b1
  clear hA hf h0 hb a1 b1
  go_enter Tryz.func70, Tryz.ntmps70
  go_wp2_with fail
  refine H1.out.mono ?_
  rintro e w1 ⟨rfl, hB1⟩
  replace HB := Lib.hid (HB.out.below hB1)
  replace HA := Lib.hid (HA.out.below hB1)
  replace HS := Lib.hid (HS.out.trans (hB1.mono HS.out.size))
  have x1 := HB.out.c1
  have x2 := HB.out.c2
  have H2 := Lib.hid (bits_l b A n c xs w1 HA.out (by omega) Hb)
  clear hB1 H1
  go_wp2_with fail
  refine H2.out.mono ?_
  rintro e w' ⟨rfl, rfl⟩
  have Hfin := Lib.hid HS.out
  clear H2 HS HA HB Hb
  go_wp2
  go_ret
  exact ⟨rfl, Hfin.out⟩

set_option maxHeartbeats 1000000 in
set_option maxRecDepth 20000 in
theorem isend_top (g : Bool) (A : Option Addr) (n c : Nat) (xs : List Nat) (e0 : Int) (v : Bool) (w : World) (hA : Lim w A n c xs) (hn : n ≤ 4294967296) (hf : Fine ⟨g, val xs, e0⟩) (h0 : val xs ≠ 0) (h1 : blen (val xs) ≤ 20000) (h2 : -20000 ≤ e0) (hv : Hid (decide ((blen (val xs) : Int) + e0 ≤ 12) = v)) :
    Calls Tryz.prog 70 #[.agg #[.bool g, .slice A n c, .int .i64 e0]] w fun e w' => e = .returned (.bool v) ∧ Below w.heap.size w w' := by
  have a1 := below1 w (.cells #[.bool g, .slice A n c, .int .i64 e0] 32)
  have b1 := Bd.new w 32 g A n c e0
  obtain ⟨b, hb⟩ : ∃ b, blen (val xs) = b := ⟨_, rfl⟩
  have Hb := Lib.hid hb
  have hbl := hA.blen_le
  have hf1 := hf.1
  have hf2 := hf.2.1
  dsimp only at hf1 hf2
  obtain ⟨t, ht⟩ : ∃ t, topD (val xs) e0 = t := ⟨_, rfl⟩
  have H1 := Lib.hid (top_l t g A n c xs e0 _ (hA.below a1) hn h0 ht)
  have ht' : t = (b : Int) - 1 + e0 := by
    rw [← ht]
    unfold topD
    rw [hb, held_id hf1 hf2]
  have d1 : decide ((b : Int) ≤ 20000) = true := decide_eq_true (by omega)
  have d2 : decide ((-20000 : Int) ≤ e0) = true := decide_eq_true (by omega)
  have d3 : decide (t < (12 : Int)) = v := by rw [← hv.out, hb]; exact decide_eq_decide.2 (by omega)
  clear hv
  clear ht' ht
  have HA := Lib.hid (hA.below a1)
  have HS := Lib.hid a1
  have HB := Lib.hid b1
  clear hA hf h0 hb a1 b1
  go_enter Tryz.func70, Tryz.ntmps70
  go_wp2_with fail
  refine H1.out.mono ?_
  rintro e w1 ⟨rfl, hB1⟩
  replace HB := Lib.hid (HB.out.below hB1)
  replace HA := Lib.hid (HA.out.below hB1)
  replace HS := Lib.hid (HS.out.trans (hB1.mono HS.out.size))
  have x1 := HB.out.c1
  have x2 := HB.out.c2
  have H2 := Lib.hid (bits_l b A n c xs w1 HA.out (by omega) Hb)
  clear hB1 H1
  go_wp2_with fail
  refine H2.out.mono ?_
  rintro e w' ⟨rfl, rfl⟩
  have Hfin := Lib.hid HS.out
  clear H2 HS HA HB Hb
  go_wp2
  go_ret
  exact ⟨rfl, Hfin.out⟩

theorem isend_l (v g : Bool) (A : Option Addr) (n c : Nat) (xs : List Nat) (e0 : Int) (w : World) (hA : Lim w A n c xs) (hn : n ≤ 4294967296) (hf : Fine ⟨g, val xs, e0⟩) (hv : Hid (decide (Mid ⟨g, val xs, e0⟩) = v)) :
    Calls Tryz.prog 70 #[.agg #[.bool g, .slice A n c, .int .i64 e0]] w fun e w' => e = .returned (.bool v) ∧ Below w.heap.size w w' := by
  have hv' := hv.out
  clear hv
  by_cases h0 : val xs = 0
  · obtain rfl : v = true := by
      rw [← hv']
      have e00 : e0 = 0 := (hf.2.2 h0).2
      refine decide_eq_true ⟨?_, ?_, fun h => absurd h0 h⟩
      · show blen (val xs) ≤ 20000
        rw [h0]; decide
      · show -20000 ≤ e0
        omega
    exact isend_nil g A n c xs e0 w hA hn hf h0
  by_cases h1 : blen (val xs) ≤ 20000
  · by_cases h2 : -20000 ≤ e0
    · refine isend_top g A n c xs e0 v w hA hn hf h0 h1 h2 ?_
      show _ = _
      rw [← hv']
      exact decide_eq_decide.2 ⟨fun h => ⟨h1, h2, fun _ => h⟩, fun h => h.2.2 h0⟩
    · obtain rfl : v = false := by rw [← hv']; exact decide_eq_false fun h => h2 h.2.1
      exact isend_low g A n c xs e0 w hA hn hf h0 h1 h2
  · obtain rfl : v = false := by rw [← hv']; exact decide_eq_false fun h => h1 h.1
    exact isend_long g A n c xs e0 w hA hn hf h0 h1

end Go.Proofs.YtijhdlkfihjbiaaGreatDoor
