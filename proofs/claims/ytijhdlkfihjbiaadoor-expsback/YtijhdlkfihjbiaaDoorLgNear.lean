/- The walks of logs.hasLog, nearest, apart and Near (written by law_lnear.py). -/
import Derived.Test.YtijhdlkfihjbiaaDoorLgLog
import Derived.Test.YtijhdlkfihjbiaaDoorK4
import Derived.Test.YtijhdlkfihjbiaaDoorK2
namespace Go.Proofs.YtijhdlkfihjbiaaDoor
open Go.RowKit

set_option maxHeartbeats 1000000 in
/-- The top of 0. -/
theorem top_nought (g : Bool) (A : Option Addr) (n c : Nat) (xs : List Nat) (e0 : Int) (w : World) (hA : Lim w A n c xs) (hn : n ≤ 4294967296) (h0 : val xs = 0) :
    Calls Tryd.prog 23 #[.agg #[.bool g, .slice A n c, .int .i64 e0]] w fun e w' => e = .returned (.tuple #[.int .i64 0, .bool false]) ∧ Below w.heap.size w w' := by
  have HA := Lib.hid (hA.alloc (.cells #[.bool g, .slice A n c, .int .i64 e0] 27))
  have H1 := Lib.hid (below1 w (.cells #[.bool g, .slice A n c, .int .i64 e0] 27))
  have Hb : Hid (blen (val xs) = 0) := by show _ = _; rw [h0]; rfl
  clear hA h0
  go_enter Tryd.func23, Tryd.ntmps23
  go_wp2_with fail
  refine (bits_l 0 A n c xs _ HA.out (by omega) Hb).mono ?_
  rintro e w' ⟨rfl, rfl⟩
  go_wp2
  go_ret2
  exact ⟨rfl, H1.out⟩

/-- A dyad in its box, its list, the table. -/
def HoldG (w : World) (p : Nat) (g : Bool) (A : Option Addr) (n c : Nat) (xs : List Nat) (e0 : Int) (u : World) : Prop :=
  Bd u p 27 g A n c e0 ∧ Lim u A n c xs ∧ Tab u ∧ Below w.heap.size w u
section
variable {w : World} {p : Nat} {g : Bool} {A : Option Addr} {n c : Nat} {xs : List Nat} {e0 : Int} {u u' : World}
theorem HoldG.below (h : HoldG w p g A n c xs e0 u) (hb : Below u.heap.size u u') : HoldG w p g A n c xs e0 u' :=
  ⟨h.1.below hb, h.2.1.below hb, h.2.2.1.below hb, h.2.2.2.trans (hb.mono h.2.2.2.size)⟩
theorem HoldG.lim (h : HoldG w p g A n c xs e0 u) : Lim u A n c xs := h.2.1
theorem HoldG.tab (h : HoldG w p g A n c xs e0 u) : Tab u := h.2.2.1
theorem HoldG.all (h : HoldG w p g A n c xs e0 u) : Below w.heap.size w u := h.2.2.2
theorem HoldG.start (hA : Lim w A n c xs) (hT : Tab w) : HoldG w w.heap.size g A n c xs e0 (w.alloc (.cells #[.bool g, .slice A n c, .int .i64 e0] 27)) :=
  ⟨Bd.new _ _ _ _ _ _ _, hA.alloc _, hT.below (below1 _ _), below1 _ _⟩
end

/-- Is there a logarithm? -/
def HasP (g : Bool) (V : Nat) (e0 : Int) : Prop := g = false ∧ V ≠ 0 ∧ blen V ≤ 4000 ∧ -1048576 ≤ (blen V : Int) - 1 + e0 ∧ (blen V : Int) - 1 + e0 ≤ 1048576
instance (g : Bool) (V : Nat) (e0 : Int) : Decidable (HasP g V e0) := by unfold HasP; infer_instance

set_option maxHeartbeats 1000000 in
theorem haslog_zero (g : Bool) (A : Option Addr) (n c : Nat) (xs : List Nat) (e0 : Int) (w : World) (hA : Lim w A n c xs) (hn : n ≤ 4294967296) (hT : Tab w) (h0 : val xs = 0) :
    Calls Tryd.prog 33 #[.agg #[.bool g, .slice A n c, .int .i64 e0]] w fun e w' => e = .returned (.bool false) ∧ Below w.heap.size w w' := by
  have H0 := Lib.hid (HoldG.start (g := g) (e0 := e0) hA hT)
  have H1 : Hid (∀ u, HoldG w w.heap.size g A n c xs e0 u → Calls Tryd.prog 23 #[.agg #[.bool g, .slice A n c, .int .i64 e0]] u fun e w' => e = .returned (.tuple #[.int .i64 0, .bool false]) ∧ Below u.heap.size u w') := fun u hu => top_nought g A n c xs e0 u hu.lim hn h0
  have H2 : Hid (∀ u, HoldG w w.heap.size g A n c xs e0 u → Calls Tryd.prog 11 #[.agg #[.bool g, .slice A n c, .int .i64 e0]] u fun e w' => e = .returned (.int .i64 0) ∧ Below u.heap.size u w') := fun u hu => sign_l 0 g A n c xs e0 u hu.lim (by omega) (by rw [h0]; rfl)
  clear hA hT h0
  go_enter Tryd.func33, Tryd.ntmps33
  go_wp2_with fail
  refine (H1.out _ H0.out).mono ?_
  rintro e w1 ⟨rfl, hB1⟩
  replace H0 := Lib.hid (H0.out.below hB1)
  have x0 := H0.out.1.c0
  have x1 := H0.out.1.c1
  have x2 := H0.out.1.c2
  clear hB1
  go_wp2_with fail
  refine (H2.out _ H0.out).mono ?_
  rintro e w2 ⟨rfl, hB2⟩
  have Hfin := Lib.hid (H0.out.below hB2).all
  clear hB2 x0 x1 x2 H0 H1 H2
  go_wp2
  go_ret
  exact ⟨rfl, Hfin.out⟩

set_option maxHeartbeats 1000000 in
theorem haslog_neg (g : Bool) (A : Option Addr) (n c : Nat) (xs : List Nat) (e0 : Int) (w : World) (hA : Lim w A n c xs) (hn : n ≤ 4294967296) (hT : Tab w) (h0 : val xs ≠ 0) (he : held e0 = e0) (hg : g = true) :
    Calls Tryd.prog 33 #[.agg #[.bool g, .slice A n c, .int .i64 e0]] w fun e w' => e = .returned (.bool false) ∧ Below w.heap.size w w' := by
  obtain ⟨t, ht⟩ : ∃ t, topD (val xs) e0 = t := ⟨_, rfl⟩
  obtain ⟨s, hs⟩ : ∃ s, sgD g (val xs) = s := ⟨_, rfl⟩
  obtain ⟨b, hb⟩ : ∃ b, blen (val xs) = b := ⟨_, rfl⟩
  have ht' : (b : Int) - 1 + e0 = t := by rw [← ht, ← hb, topD, he]
  have hs' : s = if g then -1 else 1 := by rw [← hs, sgD, if_neg h0]
  have H0 := Lib.hid (HoldG.start (g := g) (e0 := e0) hA hT)
  have H1 : Hid (∀ u, HoldG w w.heap.size g A n c xs e0 u → Calls Tryd.prog 23 #[.agg #[.bool g, .slice A n c, .int .i64 e0]] u fun e w' => e = .returned (.tuple #[.int .i64 t, .bool true]) ∧ Below u.heap.size u w') := fun u hu => top_l t g A n c xs e0 u hu.lim hn h0 ht
  have H2 : Hid (∀ u, HoldG w w.heap.size g A n c xs e0 u → Calls Tryd.prog 11 #[.agg #[.bool g, .slice A n c, .int .i64 e0]] u fun e w' => e = .returned (.int .i64 s) ∧ Below u.heap.size u w') := fun u hu => sign_l s g A n c xs e0 u hu.lim (by omega) hs
  have H3 : Hid (∀ u, HoldG w w.heap.size g A n c xs e0 u → Calls Tryd.prog 9 #[.slice A n c] u fun e w' => e = .returned (.int .i64 (b : Int)) ∧ u = w') := fun u hu => bits_l b A n c xs u hu.lim (by omega) hb
  have hs2 : s = -1 := by rw [hs', hg]; rfl
  have c1 : decide ((0 : Int) < s) = false := decide_eq_false (by omega)
  clear hs2
  clear hA hT h0 he ht ht' hs hs' hb hg
  go_enter Tryd.func33, Tryd.ntmps33
  go_wp2_with fail
  refine (H1.out _ H0.out).mono ?_
  rintro e w1 ⟨rfl, hB1⟩
  replace H0 := Lib.hid (H0.out.below hB1)
  have x0 := H0.out.1.c0
  have x1 := H0.out.1.c1
  have x2 := H0.out.1.c2
  clear hB1 H1
  go_wp2_with fail
  refine (H2.out _ H0.out).mono ?_
  rintro e w2 ⟨rfl, hB2⟩
  have Hfin := Lib.hid (H0.out.below hB2).all
  clear hB2 x0 x1 x2 H0 H2 H3
  go_wp2
  go_ret
  exact ⟨rfl, Hfin.out⟩

set_option maxHeartbeats 1000000 in
theorem haslog_long (g : Bool) (A : Option Addr) (n c : Nat) (xs : List Nat) (e0 : Int) (w : World) (hA : Lim w A n c xs) (hn : n ≤ 4294967296) (hT : Tab w) (h0 : val xs ≠ 0) (he : held e0 = e0) (hg : g = false) (h1 : ¬ blen (val xs) ≤ 4000) :
    Calls Tryd.prog 33 #[.agg #[.bool g, .slice A n c, .int .i64 e0]] w fun e w' => e = .returned (.bool false) ∧ Below w.heap.size w w' := by
  obtain ⟨t, ht⟩ : ∃ t, topD (val xs) e0 = t := ⟨_, rfl⟩
  obtain ⟨s, hs⟩ : ∃ s, sgD g (val xs) = s := ⟨_, rfl⟩
  obtain ⟨b, hb⟩ : ∃ b, blen (val xs) = b := ⟨_, rfl⟩
  have ht' : (b : Int) - 1 + e0 = t := by rw [← ht, ← hb, topD, he]
  have hs' : s = if g then -1 else 1 := by rw [← hs, sgD, if_neg h0]
  have H0 := Lib.hid (HoldG.start (g := g) (e0 := e0) hA hT)
  have H1 : Hid (∀ u, HoldG w w.heap.size g A n c xs e0 u → Calls Tryd.prog 23 #[.agg #[.bool g, .slice A n c, .int .i64 e0]] u fun e w' => e = .returned (.tuple #[.int .i64 t, .bool true]) ∧ Below u.heap.size u w') := fun u hu => top_l t g A n c xs e0 u hu.lim hn h0 ht
  have H2 : Hid (∀ u, HoldG w w.heap.size g A n c xs e0 u → Calls Tryd.prog 11 #[.agg #[.bool g, .slice A n c, .int .i64 e0]] u fun e w' => e = .returned (.int .i64 s) ∧ Below u.heap.size u w') := fun u hu => sign_l s g A n c xs e0 u hu.lim (by omega) hs
  have H3 : Hid (∀ u, HoldG w w.heap.size g A n c xs e0 u → Calls Tryd.prog 9 #[.slice A n c] u fun e w' => e = .returned (.int .i64 (b : Int)) ∧ u = w') := fun u hu => bits_l b A n c xs u hu.lim (by omega) hb
  rw [hb] at h1
  have hs2 : s = 1 := by rw [hs', hg]; rfl
  have c1 : decide ((0 : Int) < s) = true := decide_eq_true (by omega)
  clear hs2
  have c2 : decide ((b : Int) ≤ 4000) = false := decide_eq_false (by omega)
  have c2n : decide (b ≤ 4000) = false := decide_eq_false (by omega)
  clear hA hT h0 he ht ht' hs hs' hb hg h1
  go_enter Tryd.func33, Tryd.ntmps33
  go_wp2_with fail
  refine (H1.out _ H0.out).mono ?_
  rintro e w1 ⟨rfl, hB1⟩
  replace H0 := Lib.hid (H0.out.below hB1)
  have x0 := H0.out.1.c0
  have x1 := H0.out.1.c1
  have x2 := H0.out.1.c2
  clear hB1 H1
  go_wp2_with fail
  refine (H2.out _ H0.out).mono ?_
  rintro e w2 ⟨rfl, hB2⟩
  replace H0 := Lib.hid (H0.out.below hB2)
  have y0 := H0.out.1.c0
  have y1 := H0.out.1.c1
  have y2 := H0.out.1.c2
  clear hB2 x0 x1 x2 H2
  go_wp2_with fail
  refine (H3.out _ H0.out).mono ?_
  rintro e w' ⟨rfl, rfl⟩
  have Hfin := Lib.hid H0.out.all
  clear H0 H3 y0 y1 y2
  go_wp2
  go_ret
  exact ⟨rfl, Hfin.out⟩

set_option maxHeartbeats 1000000 in
theorem haslog_low (g : Bool) (A : Option Addr) (n c : Nat) (xs : List Nat) (e0 : Int) (w : World) (hA : Lim w A n c xs) (hn : n ≤ 4294967296) (hT : Tab w) (h0 : val xs ≠ 0) (he : held e0 = e0) (hg : g = false) (h1 : blen (val xs) ≤ 4000) (h2 : ¬ -1048576 ≤ (blen (val xs) : Int) - 1 + e0) :
    Calls Tryd.prog 33 #[.agg #[.bool g, .slice A n c, .int .i64 e0]] w fun e w' => e = .returned (.bool false) ∧ Below w.heap.size w w' := by
  obtain ⟨t, ht⟩ : ∃ t, topD (val xs) e0 = t := ⟨_, rfl⟩
  obtain ⟨s, hs⟩ : ∃ s, sgD g (val xs) = s := ⟨_, rfl⟩
  obtain ⟨b, hb⟩ : ∃ b, blen (val xs) = b := ⟨_, rfl⟩
  have ht' : (b : Int) - 1 + e0 = t := by rw [← ht, ← hb, topD, he]
  have hs' : s = if g then -1 else 1 := by rw [← hs, sgD, if_neg h0]
  have H0 := Lib.hid (HoldG.start (g := g) (e0 := e0) hA hT)
  have H1 : Hid (∀ u, HoldG w w.heap.size g A n c xs e0 u → Calls Tryd.prog 23 #[.agg #[.bool g, .slice A n c, .int .i64 e0]] u fun e w' => e = .returned (.tuple #[.int .i64 t, .bool true]) ∧ Below u.heap.size u w') := fun u hu => top_l t g A n c xs e0 u hu.lim hn h0 ht
  have H2 : Hid (∀ u, HoldG w w.heap.size g A n c xs e0 u → Calls Tryd.prog 11 #[.agg #[.bool g, .slice A n c, .int .i64 e0]] u fun e w' => e = .returned (.int .i64 s) ∧ Below u.heap.size u w') := fun u hu => sign_l s g A n c xs e0 u hu.lim (by omega) hs
  have H3 : Hid (∀ u, HoldG w w.heap.size g A n c xs e0 u → Calls Tryd.prog 9 #[.slice A n c] u fun e w' => e = .returned (.int .i64 (b : Int)) ∧ u = w') := fun u hu => bits_l b A n c xs u hu.lim (by omega) hb
  rw [hb] at h1 h2
  rw [ht'] at h2
  have hs2 : s = 1 := by rw [hs', hg]; rfl
  have c1 : decide ((0 : Int) < s) = true := decide_eq_true (by omega)
  clear hs2
  have c2 : decide ((b : Int) ≤ 4000) = true := decide_eq_true (by omega)
  have c2n : decide (b ≤ 4000) = true := decide_eq_true (by omega)
  have c3 : decide ((-1048576 : Int) ≤ t) = false := decide_eq_false (by omega)
  clear hA hT h0 he ht ht' hs hs' hb hg h1 h2
  go_enter Tryd.func33, Tryd.ntmps33
  go_wp2_with fail
  refine (H1.out _ H0.out).mono ?_
  rintro e w1 ⟨rfl, hB1⟩
  replace H0 := Lib.hid (H0.out.below hB1)
  have x0 := H0.out.1.c0
  have x1 := H0.out.1.c1
  have x2 := H0.out.1.c2
  clear hB1 H1
  go_wp2_with fail
  refine (H2.out _ H0.out).mono ?_
  rintro e w2 ⟨rfl, hB2⟩
  replace H0 := Lib.hid (H0.out.below hB2)
  have y0 := H0.out.1.c0
  have y1 := H0.out.1.c1
  have y2 := H0.out.1.c2
  clear hB2 x0 x1 x2 H2
  go_wp2_with fail
  refine (H3.out _ H0.out).mono ?_
  rintro e w' ⟨rfl, rfl⟩
  have Hfin := Lib.hid H0.out.all
  clear H0 H3 y0 y1 y2
  go_wp2
  go_ret
  exact ⟨rfl, Hfin.out⟩

set_option maxHeartbeats 1000000 in
theorem haslog_high (g : Bool) (A : Option Addr) (n c : Nat) (xs : List Nat) (e0 : Int) (w : World) (hA : Lim w A n c xs) (hn : n ≤ 4294967296) (hT : Tab w) (h0 : val xs ≠ 0) (he : held e0 = e0) (hg : g = false) (h1 : blen (val xs) ≤ 4000) (h2 : -1048576 ≤ (blen (val xs) : Int) - 1 + e0) (h3 : ¬ (blen (val xs) : Int) - 1 + e0 ≤ 1048576) :
    Calls Tryd.prog 33 #[.agg #[.bool g, .slice A n c, .int .i64 e0]] w fun e w' => e = .returned (.bool false) ∧ Below w.heap.size w w' := by
  obtain ⟨t, ht⟩ : ∃ t, topD (val xs) e0 = t := ⟨_, rfl⟩
  obtain ⟨s, hs⟩ : ∃ s, sgD g (val xs) = s := ⟨_, rfl⟩
  obtain ⟨b, hb⟩ : ∃ b, blen (val xs) = b := ⟨_, rfl⟩
  have ht' : (b : Int) - 1 + e0 = t := by rw [← ht, ← hb, topD, he]
  have hs' : s = if g then -1 else 1 := by rw [← hs, sgD, if_neg h0]
  have H0 := Lib.hid (HoldG.start (g := g) (e0 := e0) hA hT)
  have H1 : Hid (∀ u, HoldG w w.heap.size g A n c xs e0 u → Calls Tryd.prog 23 #[.agg #[.bool g, .slice A n c, .int .i64 e0]] u fun e w' => e = .returned (.tuple #[.int .i64 t, .bool true]) ∧ Below u.heap.size u w') := fun u hu => top_l t g A n c xs e0 u hu.lim hn h0 ht
  have H2 : Hid (∀ u, HoldG w w.heap.size g A n c xs e0 u → Calls Tryd.prog 11 #[.agg #[.bool g, .slice A n c, .int .i64 e0]] u fun e w' => e = .returned (.int .i64 s) ∧ Below u.heap.size u w') := fun u hu => sign_l s g A n c xs e0 u hu.lim (by omega) hs
  have H3 : Hid (∀ u, HoldG w w.heap.size g A n c xs e0 u → Calls Tryd.prog 9 #[.slice A n c] u fun e w' => e = .returned (.int .i64 (b : Int)) ∧ u = w') := fun u hu => bits_l b A n c xs u hu.lim (by omega) hb
  rw [hb] at h1 h2 h3
  rw [ht'] at h2 h3
  have hs2 : s = 1 := by rw [hs', hg]; rfl
  have c1 : decide ((0 : Int) < s) = true := decide_eq_true (by omega)
  clear hs2
  have c2 : decide ((b : Int) ≤ 4000) = true := decide_eq_true (by omega)
  have c2n : decide (b ≤ 4000) = true := decide_eq_true (by omega)
  have c3 : decide ((-1048576 : Int) ≤ t) = true := decide_eq_true (by omega)
  have c4 : decide (t ≤ (1048576 : Int)) = false := decide_eq_false (by omega)
  clear hA hT h0 he ht ht' hs hs' hb hg h1 h2 h3
  go_enter Tryd.func33, Tryd.ntmps33
  go_wp2_with fail
  refine (H1.out _ H0.out).mono ?_
  rintro e w1 ⟨rfl, hB1⟩
  replace H0 := Lib.hid (H0.out.below hB1)
  have x0 := H0.out.1.c0
  have x1 := H0.out.1.c1
  have x2 := H0.out.1.c2
  clear hB1 H1
  go_wp2_with fail
  refine (H2.out _ H0.out).mono ?_
  rintro e w2 ⟨rfl, hB2⟩
  replace H0 := Lib.hid (H0.out.below hB2)
  have y0 := H0.out.1.c0
  have y1 := H0.out.1.c1
  have y2 := H0.out.1.c2
  clear hB2 x0 x1 x2 H2
  go_wp2_with fail
  refine (H3.out _ H0.out).mono ?_
  rintro e w' ⟨rfl, rfl⟩
  have Hfin := Lib.hid H0.out.all
  clear H0 H3 y0 y1 y2
  go_wp2
  go_ret
  exact ⟨rfl, Hfin.out⟩

set_option maxHeartbeats 1000000 in
theorem haslog_yes (g : Bool) (A : Option Addr) (n c : Nat) (xs : List Nat) (e0 : Int) (w : World) (hA : Lim w A n c xs) (hn : n ≤ 4294967296) (hT : Tab w) (h0 : val xs ≠ 0) (he : held e0 = e0) (hg : g = false) (h1 : blen (val xs) ≤ 4000) (h2 : -1048576 ≤ (blen (val xs) : Int) - 1 + e0) (h3 : (blen (val xs) : Int) - 1 + e0 ≤ 1048576) :
    Calls Tryd.prog 33 #[.agg #[.bool g, .slice A n c, .int .i64 e0]] w fun e w' => e = .returned (.bool true) ∧ Below w.heap.size w w' := by
  obtain ⟨t, ht⟩ : ∃ t, topD (val xs) e0 = t := ⟨_, rfl⟩
  obtain ⟨s, hs⟩ : ∃ s, sgD g (val xs) = s := ⟨_, rfl⟩
  obtain ⟨b, hb⟩ : ∃ b, blen (val xs) = b := ⟨_, rfl⟩
  have ht' : (b : Int) - 1 + e0 = t := by rw [← ht, ← hb, topD, he]
  have hs' : s = if g then -1 else 1 := by rw [← hs, sgD, if_neg h0]
  have H0 := Lib.hid (HoldG.start (g := g) (e0 := e0) hA hT)
  have H1 : Hid (∀ u, HoldG w w.heap.size g A n c xs e0 u → Calls Tryd.prog 23 #[.agg #[.bool g, .slice A n c, .int .i64 e0]] u fun e w' => e = .returned (.tuple #[.int .i64 t, .bool true]) ∧ Below u.heap.size u w') := fun u hu => top_l t g A n c xs e0 u hu.lim hn h0 ht
  have H2 : Hid (∀ u, HoldG w w.heap.size g A n c xs e0 u → Calls Tryd.prog 11 #[.agg #[.bool g, .slice A n c, .int .i64 e0]] u fun e w' => e = .returned (.int .i64 s) ∧ Below u.heap.size u w') := fun u hu => sign_l s g A n c xs e0 u hu.lim (by omega) hs
  have H3 : Hid (∀ u, HoldG w w.heap.size g A n c xs e0 u → Calls Tryd.prog 9 #[.slice A n c] u fun e w' => e = .returned (.int .i64 (b : Int)) ∧ u = w') := fun u hu => bits_l b A n c xs u hu.lim (by omega) hb
  rw [hb] at h1 h2 h3
  rw [ht'] at h2 h3
  have hs2 : s = 1 := by rw [hs', hg]; rfl
  have c1 : decide ((0 : Int) < s) = true := decide_eq_true (by omega)
  clear hs2
  have c2 : decide ((b : Int) ≤ 4000) = true := decide_eq_true (by omega)
  have c2n : decide (b ≤ 4000) = true := decide_eq_true (by omega)
  have c3 : decide ((-1048576 : Int) ≤ t) = true := decide_eq_true (by omega)
  have c4 : decide (t ≤ (1048576 : Int)) = true := decide_eq_true (by omega)
  clear hA hT h0 he ht ht' hs hs' hb hg h1 h2 h3
  go_enter Tryd.func33, Tryd.ntmps33
  go_wp2_with fail
  refine (H1.out _ H0.out).mono ?_
  rintro e w1 ⟨rfl, hB1⟩
  replace H0 := Lib.hid (H0.out.below hB1)
  have x0 := H0.out.1.c0
  have x1 := H0.out.1.c1
  have x2 := H0.out.1.c2
  clear hB1 H1
  go_wp2_with fail
  refine (H2.out _ H0.out).mono ?_
  rintro e w2 ⟨rfl, hB2⟩
  replace H0 := Lib.hid (H0.out.below hB2)
  have y0 := H0.out.1.c0
  have y1 := H0.out.1.c1
  have y2 := H0.out.1.c2
  clear hB2 x0 x1 x2 H2
  go_wp2_with fail
  refine (H3.out _ H0.out).mono ?_
  rintro e w' ⟨rfl, rfl⟩
  have Hfin := Lib.hid H0.out.all
  clear H0 H3 y0 y1 y2
  go_wp2
  go_ret
  exact ⟨rfl, Hfin.out⟩

theorem haslog_l (v : Bool) (g : Bool) (A : Option Addr) (n c : Nat) (xs : List Nat) (e0 : Int) (w : World) (hA : Lim w A n c xs) (hn : n ≤ 4294967296) (hT : Tab w) (he : held e0 = e0) (hv : Hid (decide (HasP g (val xs) e0) = v)) :
    Calls Tryd.prog 33 #[.agg #[.bool g, .slice A n c, .int .i64 e0]] w fun e w' => e = .returned (.bool v) ∧ Below w.heap.size w w' := by
  by_cases h0 : val xs = 0
  · obtain rfl : v = false := by rw [← hv.out]; exact decide_eq_false fun h => h.2.1 h0
    exact haslog_zero g A n c xs e0 w hA hn hT h0
  cases g with
  | true =>
    obtain rfl : v = false := by rw [← hv.out]; exact decide_eq_false fun h => by cases h.1
    exact haslog_neg true A n c xs e0 w hA hn hT h0 he rfl
  | false =>
    by_cases h1 : blen (val xs) ≤ 4000
    · by_cases h2 : -1048576 ≤ (blen (val xs) : Int) - 1 + e0
      · by_cases h3 : (blen (val xs) : Int) - 1 + e0 ≤ 1048576
        · obtain rfl : v = true := by rw [← hv.out]; exact decide_eq_true ⟨rfl, h0, h1, h2, h3⟩
          exact haslog_yes false A n c xs e0 w hA hn hT h0 he rfl h1 h2 h3
        · obtain rfl : v = false := by rw [← hv.out]; exact decide_eq_false fun h => h3 h.2.2.2.2
          exact haslog_high false A n c xs e0 w hA hn hT h0 he rfl h1 h2 h3
      · obtain rfl : v = false := by rw [← hv.out]; exact decide_eq_false fun h => h2 h.2.2.2.1
        exact haslog_low false A n c xs e0 w hA hn hT h0 he rfl h1 h2
    · obtain rfl : v = false := by rw [← hv.out]; exact decide_eq_false fun h => h1 h.2.2.1
      exact haslog_long false A n c xs e0 w hA hn hT h0 he rfl h1

/-- The power of two near a number, and its exponent. -/
def NrTold (w : World) (V : Nat) (e : Ending) (w' : World) : Prop :=
  ∃ A m c zs, e = .returned (.tuple #[.slice A m c, .int .i64 (npE V : Int)]) ∧ m ≤ 64 ∧ Lim w' A m c zs ∧ Bare zs ∧ val zs = npP V ∧ Below w.heap.size w w'
theorem two_len (k : Nat) : blen (2 ^ k) = k + 1 := by
  have h := blen_shl (x := 1) (n := k) (by decide)
  rw [Nat.one_mul] at h
  have : blen 1 = 1 := rfl
  omega

set_option maxHeartbeats 2000000 in
theorem nearest_up (A : Option Addr) (n c : Nat) (xs : List Nat) (w : World) (hA : Lim w A n c xs) (hn : n ≤ 70) (h0 : val xs ≠ 0) (h1 : blen (val xs) ≤ 4000) (h2 : 3 * 2 ^ (blen (val xs) - 1) ≤ 2 * val xs) :
    Calls Tryd.prog 34 #[.slice A n c] w (NrTold w (val xs)) := by
  obtain ⟨V, hV⟩ : ∃ V, val xs = V := ⟨_, rfl⟩
  rw [hV] at h0 h1 h2 ⊢
  have hp := blen_pos h0
  obtain ⟨b, hb⟩ : ∃ b, blen V = b := ⟨_, rfl⟩
  have H1 := Lib.hid (bits_l b A n c xs w hA (by omega) (by show _ = _; rw [hV]; exact hb))
  have hE : npE V = b := by unfold npE; rw [if_pos h2, hb]
  rw [hb] at h1 h2 hp
  obtain ⟨k, hk⟩ : ∃ k, b - 1 = k := ⟨_, rfl⟩
  have ek : (b : Int) - 1 = (k : Int) := by omega
  have hk9 : k ≤ 3999 := by omega
  obtain ⟨Pw, hPw⟩ : ∃ P, 2 ^ k = P := ⟨_, rfl⟩
  have hPb : blen Pw = k + 1 := by rw [← hPw]; exact two_len k
  rw [hk, hPw] at h2
  obtain ⟨cv, hcv⟩ : ∃ cv, cmpZ (V + V) (Pw * 3) = cv := ⟨_, rfl⟩
  have c1 : decide ((0 : Int) ≤ cv) = true := by
    rw [← hcv]
    exact decide_eq_true (cmpZ_up (by omega))
  have HO := Lib.hid (of_any 1 (by decide) w)
  have HA := Lib.hid hA
  have HV := Lib.hid hV
  have HP : Hid (1 * 2 ^ k = Pw) := by show _ = _; rw [Nat.one_mul]; exact hPw
  have HB := Lib.hid hPb
  have HC := Lib.hid hcv
  have HF : Hid (npE V = k + 1 ∧ npP V = Pw + Pw) := by
    have e1 : npE V = k + 1 := by omega
    refine ⟨e1, ?_⟩
    unfold npP
    rw [e1, Nat.pow_succ, hPw, Nat.mul_two]
  clear hA hV hb h0 h1 h2 hp hE hk hPw hPb hcv
  go_enter Tryd.func34, Tryd.ntmps34
  go_wp2_with fail
  refine H1.out.mono ?_
  rintro e w' ⟨rfl, rfl⟩
  go_wp2_with fail
  refine HO.out.mono ?_
  rintro e w1 ⟨A1, m1, c1_, zs, rfl, hm1, hl1, hb1, hv1, hB1⟩
  have h2 := shl_all A1 m1 c1_ zs w1 hl1 (by omega) k (Or.inl (by rw [hv1]; have : blen 1 = 1 := rfl; omega))
  rw [hv1, HP.out] at h2
  have H2 := Lib.hid h2
  have HS := Lib.hid hB1
  clear hl1 hb1 hv1 hB1 h2 H1 HO
  go_wp2_with fail
  refine H2.out.mono ?_
  rintro e w2 ⟨A2, m2, c2, us, rfl, hm2, hl2, hb2, hv2, hB2⟩
  have hm2' : m2 ≤ 63 := bare_le hl2 hb2 (by rw [hv2, HB.out]; omega)
  have h3 := times_any A2 m2 c2 us 3 w2 hl2 (by omega) (by decide) (by rw [hv2, HB.out]; omega)
  rw [hv2] at h3
  have H3 := Lib.hid h3
  replace HS := Lib.hid (HS.out.trans (hB2.mono HS.out.size))
  have HL2 : Hid (Lim w2 A2 m2 c2 us ∧ Bare us ∧ val us = Pw) := ⟨hl2, hb2, hv2⟩
  clear hl2 hb2 hv2 hB2 h3 H2 hm2
  go_wp2_with fail
  refine H3.out.mono ?_
  rintro e w3 ⟨A3, m3, c3, vs, rfl, hm3, hl3, hb3, hv3, hB3⟩
  replace HS := Lib.hid (HS.out.trans (hB3.mono HS.out.size))
  replace HL2 : Hid (Lim w3 A2 m2 c2 us ∧ Bare us ∧ val us = Pw) := ⟨HL2.out.1.below hB3, HL2.out.2⟩
  have HL3 : Hid (Lim w3 A3 m3 c3 vs ∧ val vs = Pw * 3) := ⟨hl3, hv3⟩
  have h4 := add_any A n c xs A n c xs w3 (HA.out.below HS.out) (HA.out.below HS.out) (by omega) (by omega)
  rw [HV.out] at h4
  have H4 := Lib.hid h4
  clear hl3 hb3 hv3 hB3 h4 H3
  go_wp2_with fail
  refine H4.out.mono ?_
  rintro e w4 ⟨A4, m4, c4, ts, rfl, hm4, hl4, hb4, hv4, hB4⟩
  replace HS := Lib.hid (HS.out.trans (hB4.mono HS.out.size))
  replace HL2 : Hid (Lim w4 A2 m2 c2 us ∧ Bare us ∧ val us = Pw) := ⟨HL2.out.1.below hB4, HL2.out.2⟩
  have H5 := Lib.hid (cmp_b cv A4 m4 c4 ts A3 m3 c3 vs w4 hl4 (HL3.out.1.below hB4) (by omega) (by omega) (by show _ = _; rw [hv4, HL3.out.2]; exact HC.out))
  clear hl4 hb4 hv4 hB4 H4 HL3 HC
  go_wp2_with fail
  refine H5.out.mono ?_
  rintro e w5 ⟨rfl, hB5⟩
  replace HS := Lib.hid (HS.out.trans (hB5.mono HS.out.size))
  replace HL2 : Hid (Lim w5 A2 m2 c2 us ∧ Bare us ∧ val us = Pw) := ⟨HL2.out.1.below hB5, HL2.out.2⟩
  have h6 := add_any A2 m2 c2 us A2 m2 c2 us w5 HL2.out.1 HL2.out.1 (by omega) (by omega)
  rw [HL2.out.2.2] at h6
  have H6 := Lib.hid h6
  clear hB5 h6 H5 HL2
  go_wp2_with fail
  refine H6.out.mono ?_
  rintro e w6 ⟨A6, m6, c6, rs, rfl, hm6, hl6, hb6, hv6, hB6⟩
  have Hfin : Hid (NrTold w V (.returned (.tuple #[.slice A6 m6 c6, .int .i64 ((k : Int) + 1)])) w6) := by
    refine ⟨A6, m6, c6, rs, by rw [HF.out.1]; rfl, by omega, hl6, hb6, by rw [hv6, HF.out.2], HS.out.trans (hB6.mono HS.out.size)⟩
  clear hl6 hb6 hv6 hB6 H6 HF HS HA HV HP HB
  go_wp2
  go_ret2
  exact Hfin.out

set_option maxHeartbeats 2000000 in
theorem nearest_down (A : Option Addr) (n c : Nat) (xs : List Nat) (w : World) (hA : Lim w A n c xs) (hn : n ≤ 70) (h0 : val xs ≠ 0) (h1 : blen (val xs) ≤ 4000) (h2 : ¬ 3 * 2 ^ (blen (val xs) - 1) ≤ 2 * val xs) :
    Calls Tryd.prog 34 #[.slice A n c] w (NrTold w (val xs)) := by
  obtain ⟨V, hV⟩ : ∃ V, val xs = V := ⟨_, rfl⟩
  rw [hV] at h0 h1 h2 ⊢
  have hp := blen_pos h0
  obtain ⟨b, hb⟩ : ∃ b, blen V = b := ⟨_, rfl⟩
  have H1 := Lib.hid (bits_l b A n c xs w hA (by omega) (by show _ = _; rw [hV]; exact hb))
  have hE : npE V = b - 1 := by unfold npE; rw [if_neg h2, hb]
  rw [hb] at h1 h2 hp
  obtain ⟨k, hk⟩ : ∃ k, b - 1 = k := ⟨_, rfl⟩
  have ek : (b : Int) - 1 = (k : Int) := by omega
  have hk9 : k ≤ 3999 := by omega
  obtain ⟨Pw, hPw⟩ : ∃ P, 2 ^ k = P := ⟨_, rfl⟩
  have hPb : blen Pw = k + 1 := by rw [← hPw]; exact two_len k
  rw [hk, hPw] at h2
  obtain ⟨cv, hcv⟩ : ∃ cv, cmpZ (V + V) (Pw * 3) = cv := ⟨_, rfl⟩
  have c1 : decide ((0 : Int) ≤ cv) = false := by
    rw [← hcv]
    exact decide_eq_false (by rw [cmpZ_lt (by omega)]; decide)
  have HO := Lib.hid (of_any 1 (by decide) w)
  have HA := Lib.hid hA
  have HV := Lib.hid hV
  have HP : Hid (1 * 2 ^ k = Pw) := by show _ = _; rw [Nat.one_mul]; exact hPw
  have HB := Lib.hid hPb
  have HC := Lib.hid hcv
  have HF : Hid (npE V = k ∧ npP V = Pw) := by
    have e1 : npE V = k := by omega
    refine ⟨e1, ?_⟩
    unfold npP
    rw [e1, hPw]
  clear hA hV hb h0 h1 h2 hp hE hk hPw hPb hcv
  go_enter Tryd.func34, Tryd.ntmps34
  go_wp2_with fail
  refine H1.out.mono ?_
  rintro e w' ⟨rfl, rfl⟩
  go_wp2_with fail
  refine HO.out.mono ?_
  rintro e w1 ⟨A1, m1, c1_, zs, rfl, hm1, hl1, hb1, hv1, hB1⟩
  have h2 := shl_all A1 m1 c1_ zs w1 hl1 (by omega) k (Or.inl (by rw [hv1]; have : blen 1 = 1 := rfl; omega))
  rw [hv1, HP.out] at h2
  have H2 := Lib.hid h2
  have HS := Lib.hid hB1
  clear hl1 hb1 hv1 hB1 h2 H1 HO
  go_wp2_with fail
  refine H2.out.mono ?_
  rintro e w2 ⟨A2, m2, c2, us, rfl, hm2, hl2, hb2, hv2, hB2⟩
  have hm2' : m2 ≤ 63 := bare_le hl2 hb2 (by rw [hv2, HB.out]; omega)
  have h3 := times_any A2 m2 c2 us 3 w2 hl2 (by omega) (by decide) (by rw [hv2, HB.out]; omega)
  rw [hv2] at h3
  have H3 := Lib.hid h3
  replace HS := Lib.hid (HS.out.trans (hB2.mono HS.out.size))
  have HL2 : Hid (Lim w2 A2 m2 c2 us ∧ Bare us ∧ val us = Pw) := ⟨hl2, hb2, hv2⟩
  clear hl2 hb2 hv2 hB2 h3 H2 hm2
  go_wp2_with fail
  refine H3.out.mono ?_
  rintro e w3 ⟨A3, m3, c3, vs, rfl, hm3, hl3, hb3, hv3, hB3⟩
  replace HS := Lib.hid (HS.out.trans (hB3.mono HS.out.size))
  replace HL2 : Hid (Lim w3 A2 m2 c2 us ∧ Bare us ∧ val us = Pw) := ⟨HL2.out.1.below hB3, HL2.out.2⟩
  have HL3 : Hid (Lim w3 A3 m3 c3 vs ∧ val vs = Pw * 3) := ⟨hl3, hv3⟩
  have h4 := add_any A n c xs A n c xs w3 (HA.out.below HS.out) (HA.out.below HS.out) (by omega) (by omega)
  rw [HV.out] at h4
  have H4 := Lib.hid h4
  clear hl3 hb3 hv3 hB3 h4 H3
  go_wp2_with fail
  refine H4.out.mono ?_
  rintro e w4 ⟨A4, m4, c4, ts, rfl, hm4, hl4, hb4, hv4, hB4⟩
  replace HS := Lib.hid (HS.out.trans (hB4.mono HS.out.size))
  replace HL2 : Hid (Lim w4 A2 m2 c2 us ∧ Bare us ∧ val us = Pw) := ⟨HL2.out.1.below hB4, HL2.out.2⟩
  have H5 := Lib.hid (cmp_b cv A4 m4 c4 ts A3 m3 c3 vs w4 hl4 (HL3.out.1.below hB4) (by omega) (by omega) (by show _ = _; rw [hv4, HL3.out.2]; exact HC.out))
  clear hl4 hb4 hv4 hB4 H4 HL3 HC
  go_wp2_with fail
  refine H5.out.mono ?_
  rintro e w5 ⟨rfl, hB5⟩
  replace HS := Lib.hid (HS.out.trans (hB5.mono HS.out.size))
  replace HL2 : Hid (Lim w5 A2 m2 c2 us ∧ Bare us ∧ val us = Pw) := ⟨HL2.out.1.below hB5, HL2.out.2⟩
  have Hfin : Hid (NrTold w V (.returned (.tuple #[.slice A2 m2 c2, .int .i64 (k : Int)])) w5) := by
    refine ⟨A2, m2, c2, us, by rw [HF.out.1], by omega, HL2.out.1, HL2.out.2.1, by rw [HL2.out.2.2, HF.out.2], HS.out⟩
  clear hB5 H5 HL2 HF HS HA HV HP HB
  go_wp2
  go_ret2
  exact Hfin.out

theorem nearest_l (A : Option Addr) (n c : Nat) (xs : List Nat) (w : World) (hA : Lim w A n c xs) (hn : n ≤ 70) (h0 : val xs ≠ 0) (h1 : blen (val xs) ≤ 4000) :
    Calls Tryd.prog 34 #[.slice A n c] w (NrTold w (val xs)) := by
  by_cases h2 : 3 * 2 ^ (blen (val xs) - 1) ≤ 2 * val xs
  · exact nearest_up A n c xs w hA hn h0 h1 h2
  · exact nearest_down A n c xs w hA hn h0 h1 h2

/-- How far two are apart, and whether the first one is less. -/
def ApTold (w : World) (V U : Nat) (L : Nat) (e : Ending) (w' : World) : Prop :=
  ∃ A m c zs, e = .returned (.tuple #[.slice A m c, .bool (decide (V < U))]) ∧ m ≤ L ∧ Lim w' A m c zs ∧ Bare zs ∧ val zs = (if V < U then U - V else V - U) ∧ Below w.heap.size w w'
set_option maxHeartbeats 1000000 in
theorem apart_lg (A : Option Addr) (n c : Nat) (xs : List Nat) (B : Option Addr) (m d : Nat) (ys : List Nat) (w : World) (hA : Lim w A n c xs) (hB : Lim w B m d ys) (hn : n ≤ 100) (hm : m ≤ 100) :
    Calls Tryd.prog 35 #[.slice A n c, .slice B m d] w (ApTold w (val xs) (val ys) (max n m)) := by
  obtain ⟨cv, hcv⟩ : ∃ cv, cmpZ (val xs) (val ys) = cv := ⟨_, rfl⟩
  have H1 := Lib.hid (cmp_b cv A n c xs B m d ys w hA hB (by omega) (by omega) hcv)
  by_cases h : val xs < val ys
  · have c1 : decide (cv < (0 : Int)) = true := decide_eq_true (by rw [← hcv, cmpZ_lt h]; decide)
    have H2 : Hid (∀ u, Below w.heap.size w u → Calls Tryd.prog 40 #[.slice B m d, .slice A n c] u (Tells2 u (val ys - val xs) m (.int .i64 0))) := fun u hu => sub_any B m d ys A n c xs u (hB.below hu) (hA.below hu) (by omega) (by omega) (by omega)
    have HD : Hid (decide (val xs < val ys) = true ∧ (if val xs < val ys then val ys - val xs else val xs - val ys) = val ys - val xs) := ⟨decide_eq_true h, if_pos h⟩
    clear hA hB hcv h
    go_enter Tryd.func35, Tryd.ntmps35
    go_wp2_with fail
    refine H1.out.mono ?_
    rintro e w1 ⟨rfl, hB1⟩
    have HS := Lib.hid hB1
    clear H1 hB1
    go_wp2_with fail
    refine (H2.out _ HS.out).mono ?_
    rintro e w2 ⟨A2, m2, c2, us, rfl, hm2, hl2, hb2, hv2, hB2⟩
    have Hfin : Hid (ApTold w (val xs) (val ys) (max n m) (.returned (.tuple #[.slice A2 m2 c2, .bool true])) w2) :=
      ⟨A2, m2, c2, us, by rw [HD.out.1], by omega, hl2, hb2, by rw [HD.out.2, hv2], HS.out.trans (hB2.mono HS.out.size)⟩
    clear hl2 hb2 hv2 hB2 H2 HS HD
    go_wp2
    go_ret2
    exact Hfin.out
  · have c1 : decide (cv < (0 : Int)) = false := decide_eq_false (by rw [← hcv]; have := cmpZ_up (show val ys ≤ val xs by omega); omega)
    have H2 : Hid (∀ u, Below w.heap.size w u → Calls Tryd.prog 40 #[.slice A n c, .slice B m d] u (Tells2 u (val xs - val ys) n (.int .i64 0))) := fun u hu => sub_any A n c xs B m d ys u (hA.below hu) (hB.below hu) (by omega) (by omega) (by omega)
    have HD : Hid (decide (val xs < val ys) = false ∧ (if val xs < val ys then val ys - val xs else val xs - val ys) = val xs - val ys) := ⟨decide_eq_false h, if_neg h⟩
    clear hA hB hcv h
    go_enter Tryd.func35, Tryd.ntmps35
    go_wp2_with fail
    refine H1.out.mono ?_
    rintro e w1 ⟨rfl, hB1⟩
    have HS := Lib.hid hB1
    clear H1 hB1
    go_wp2_with fail
    refine (H2.out _ HS.out).mono ?_
    rintro e w2 ⟨A2, m2, c2, us, rfl, hm2, hl2, hb2, hv2, hB2⟩
    have Hfin : Hid (ApTold w (val xs) (val ys) (max n m) (.returned (.tuple #[.slice A2 m2 c2, .bool false])) w2) :=
      ⟨A2, m2, c2, us, by rw [HD.out.1], by omega, hl2, hb2, by rw [HD.out.2, hv2], HS.out.trans (hB2.mono HS.out.size)⟩
    clear hl2 hb2 hv2 hB2 H2 HS HD
    go_wp2
    go_ret2
    exact Hfin.out

/-- What Near tells. -/
def NearV (g : Bool) (V : Nat) (e0 : Int) (X Y : Nat) (neg : Bool) (E : Int) (ok : Bool) (m1 m2 : Nat) : Prop :=
  (∃ d, mk g V e0 = some d ∧ LogD d ∧ ok = true ∧ neg = npN d.V ∧ E = d.e + npE d.V ∧ X = npX d.V ∧ Y = npY d.V) ∨ ((¬ ∃ d, mk g V e0 = some d ∧ LogD d) ∧ ok = false ∧ neg = false ∧ E = 0 ∧ m1 = 0 ∧ m2 = 0)
def NearTold (w : World) (g : Bool) (V : Nat) (e0 : Int) (e : Ending) (w' : World) : Prop :=
  ∃ A1 m1 c1 zs A2 m2 c2 us neg E ok, e = .returned (.tuple #[.slice A1 m1 c1, .slice A2 m2 c2, .bool neg, .int .i64 E, .bool ok]) ∧ m1 ≤ 70 ∧ m2 ≤ 70 ∧ Lim w' A1 m1 c1 zs ∧ Lim w' A2 m2 c2 us ∧ Bare zs ∧ Bare us ∧ Below w.heap.size w w' ∧ NearV g V e0 (val zs) (val us) neg E ok m1 m2
theorem near_no {w w' : World} {g : Bool} {V : Nat} {e0 : Int} (hb : Below w.heap.size w w') (h : ¬ ∃ d, mk g V e0 = some d ∧ LogD d) : NearTold w g V e0 (.returned (.tuple #[.slice none 0 0, .slice none 0 0, .bool false, .int .i64 0, .bool false])) w' :=
  ⟨none, 0, 0, [], none, 0, 0, [], false, 0, false, rfl, by decide, by decide, Lim.nil _ _ _, Lim.nil _ _ _, rfl, rfl, hb, Or.inr ⟨h, rfl, rfl, rfl, rfl, rfl⟩⟩
theorem near_two (w : World) (g : Bool) (A : Option Addr) (n c : Nat) (e0 : Int) : Below w.heap.size w (w.alloc (.cells #[.bool g, .slice A n c, .int .i64 e0] 27)) := below1 _ _

set_option maxHeartbeats 2000000 in
theorem near_l (g : Bool) (A : Option Addr) (n c : Nat) (xs : List Nat) (e0 : Int) (w : World) (hA : Lim w A n c xs) (hn : n ≤ 4294967296) (hT : Tab w) :
    Calls Tryd.prog 12 #[.agg #[.bool g, .slice A n c, .int .i64 e0]] w (NearTold w g (val xs) e0) := by
  have h1 := dbare_any g A n c xs e0 (w.alloc (.cells #[.bool g, .slice A n c, .int .i64 e0] 27)) (hA.alloc _) hn (hT.below (below1 _ _))
  have a1 := near_two w g A n c e0
  obtain ⟨V, hV⟩ : ∃ V, val xs = V := ⟨_, rfl⟩
  rw [hV] at h1 ⊢
  obtain ⟨o, ho⟩ : ∃ o, mk g V e0 = o := ⟨_, rfl⟩
  rw [ho] at h1
  cases o with
  | none =>
    have Hno : Hid (¬ ∃ d, mk g V e0 = some d ∧ LogD d) := fun ⟨d, h, _⟩ => by rw [ho] at h; cases h
    have H1 := Lib.hid h1
    have HS := Lib.hid a1
    clear hA hT a1 h1 hV ho
    go_enter Tryd.func12, Tryd.ntmps12
    go_wp2_with fail
    refine H1.out.mono ?_
    rintro e w1 ⟨g1, A1, m1, c1, zs, E1, r1, rfl, hm1, hl1, hb1, ⟨rfl, rfl, hz, rfl⟩, hB1⟩
    have hs := HS.out.trans (hB1.mono HS.out.size)
    have Hfin := Lib.hid (near_no (g := g) (V := V) (e0 := e0) (hs.trans ((below1 w1 (.cells #[.bool false, .slice A1 m1 c1, .int .i64 0] 27)).mono hs.size)) Hno.out)
    clear H1 HS hl1 hb1 hz hB1 hs Hno
    go_wp2
    exact bodyPost_ret (v := .tuple #[.slice none 0 0, .slice none 0 0, .bool false, .int .i64 0, .bool false]) (by simp [results, Tryd.results12, go_sem]) rfl Hfin.out
  | some d =>
    have hF := (mk_fine ho).1
    have hEh := hF.held
    obtain ⟨v, hv⟩ : ∃ v, decide (HasP d.neg d.V d.e) = v := ⟨_, rfl⟩
    have H1 := Lib.hid h1
    have HS := Lib.hid a1
    have HT := Lib.hid (hT.below a1)
    have HD : Hid (mk g V e0 = some d) := ho
    have HE := Lib.hid hEh
    have HF := Lib.hid hF
    have HV := Lib.hid hv
    clear hA hT a1 h1 hV ho hF hEh hv
    go_enter Tryd.func12, Tryd.ntmps12
    go_wp2_with fail
    refine H1.out.mono ?_
    rintro e w1 ⟨g1, A1, m1, c1, zs, E1, r1, rfl, hm1, hl1, hb1, ⟨rfl, rfl, hz, rfl⟩, hB1⟩
    have hs := HS.out.trans (hB1.mono HS.out.size)
    have a2 := below1 w1 (.cells #[.bool d.neg, .slice A1 m1 c1, .int .i64 d.e] 27)
    have k0 : HoldG w w1.heap.size d.neg A1 m1 c1 zs d.e (w1.alloc (.cells #[.bool d.neg, .slice A1 m1 c1, .int .i64 d.e] 27)) :=
      ⟨Bd.new _ _ _ _ _ _ _, hl1.alloc _, (HT.out.below hB1).below a2, hs.trans (a2.mono hs.size)⟩
    have H2 := Lib.hid (haslog_l v d.neg A1 m1 c1 zs d.e _ k0.lim (by omega) k0.tab HE.out (by rw [hz]; exact HV.out))
    have K0 := Lib.hid k0
    have HZ : Hid (Bare zs ∧ val zs = d.V) := ⟨hb1, hz⟩
    have hm9 : m1 ≤ 4294967296 := by omega
    clear H1 HS HT hl1 hb1 hz hB1 hs a2 k0 hm1
    obtain ⟨dg, dV, dE⟩ := d
    dsimp only at *
    cases v with
    | false =>
      have Hno : Hid (¬ ∃ d, mk g V e0 = some d ∧ LogD d) := fun ⟨d, h, h2⟩ => by
        rw [HD.out] at h
        cases h
        exact of_decide_eq_false HV.out ⟨h2.2.1, h2.2.2.1, h2.2.2.2⟩
      go_wp2_with fail
      refine H2.out.mono ?_
      rintro e w2 ⟨rfl, hB2⟩
      have Hfin := Lib.hid (near_no (g := g) (V := V) (e0 := e0) (K0.out.below hB2).all Hno.out)
      clear H2 K0 hB2 Hno HD HE HF HV HZ
      go_wp2
      exact bodyPost_ret (v := .tuple #[.slice none 0 0, .slice none 0 0, .bool false, .int .i64 0, .bool false]) (by simp [results, Tryd.results12, go_sem]) rfl Hfin.out
    | true =>
      have hp := of_decide_eq_true HV.out
      have HL : Hid (LogD ⟨dg, dV, dE⟩) := ⟨HF.out, hp.1, hp.2.1, hp.2.2⟩
      have hm8 : m1 ≤ 63 := bare_le K0.out.lim HZ.out.1 (by rw [HZ.out.2]; have := hp.2.2.1; omega)
      have HP := Lib.hid hp
      clear hp
      go_wp2_with fail
      refine H2.out.mono ?_
      rintro e w2 ⟨rfl, hB2⟩
      replace K0 := Lib.hid (K0.out.below hB2)
      have h3 := nearest_l A1 m1 c1 zs w2 K0.out.lim (by omega) (by rw [HZ.out.2]; exact HP.out.2.1) (by rw [HZ.out.2]; exact HP.out.2.2.1)
      rw [HZ.out.2] at h3
      have H3 := Lib.hid h3
      have x0 := K0.out.1.c0
      have x1 := K0.out.1.c1
      have x2 := K0.out.1.c2
      clear hB2 h3 H2
      go_wp2_with fail
      refine H3.out.mono ?_
      rintro e w3 ⟨A3, m3, c3, us, rfl, hm3, hl3, hb3, hv3, hB3⟩
      replace K0 := Lib.hid (K0.out.below hB3)
      have h4 := apart_lg A1 m1 c1 zs A3 m3 c3 us w3 K0.out.lim hl3 (by omega) (by omega)
      rw [HZ.out.2, hv3] at h4
      have H4 := Lib.hid h4
      have HL3 : Hid (Lim w3 A3 m3 c3 us ∧ val us = npP dV) := ⟨hl3, hv3⟩
      have y0 := K0.out.1.c0
      have y1 := K0.out.1.c1
      have y2 := K0.out.1.c2
      obtain ⟨ne, hne⟩ : ∃ ne, npE dV = ne := ⟨_, rfl⟩
      have hne9 : ne ≤ 4000 := by have := np_blen HP.out.2.1 HP.out.2.2.1; omega
      have he1 := HF.out.1
      have he2 := HF.out.2.1
      dsimp only at he1 he2
      obtain ⟨S, hS⟩ : ∃ S, dE + (ne : Int) = S := ⟨_, rfl⟩
      have hS1 : IntKind.i64.wrap S = S := by rw [IntKind.wrap_i64]; omega
      have hS2 : IntKind.i64.wrap (dE + (ne : Int)) = S := by rw [hS]; exact hS1
      have HSS : Hid (dE + (npE dV : Int) = S) := by show _ = _; rw [hne]; exact hS
      rw [hne]
      clear x0 x1 x2 hl3 hb3 hv3 hB3 h4 H3 he1 he2
      go_wp2_with fail
      refine H4.out.mono ?_
      rintro e w4 ⟨A4, m4, c4, ts, rfl, hm4, hl4, hb4, hv4, hB4⟩
      replace K0 := Lib.hid ((K0.out.below hB4).below (below_drew _))
      have HL3' := Lib.hid ((HL3.out.1.below hB4).drew)
      have h5 := add_any A1 m1 c1 zs A3 m3 c3 us _ K0.out.lim HL3'.out (by omega) (by omega)
      rw [HZ.out.2, HL3.out.2] at h5
      have H5 := Lib.hid h5
      obtain ⟨nn, hnn⟩ : ∃ nn, decide (dV < npP dV) = nn := ⟨_, rfl⟩
      rw [hnn]
      have HX : Hid (Lim w4 A4 m4 c4 ts ∧ Bare ts ∧ val ts = npX dV ∧ npN dV = nn) := ⟨hl4, hb4, hv4, hnn⟩
      have hm4' : m4 ≤ 70 := by omega
      have k0 := Lib.hid (And.intro K0.out.1.c1 K0.out.1.c2)
      clear y0 y1 y2 hl4 hb4 hv4 hB4 h5 H4 HL3 HL3' hnn hne hS
      go_wp2_with fail
      go_region_held3 (fun w' => w'.cell? ⟨w1.heap.size, 1, none⟩ = some (.slice A1 m1 c1) ∧ w'.cell? ⟨w1.heap.size, 2, none⟩ = some (.int .i64 dE)) (first | (with_reducible exact k0.out) | (with_reducible exact k1.out)) (first | (go_at_call 26; (with_reducible refine H5.out.mono ?_); rintro e w5 ⟨A5, m5, c5, rs, rfl, hm5, hl5, hb5, hv5, hB5⟩; have K5 := Lib.hid (K0.out.below hB5); have k1 := Lib.hid (And.intro K5.out.1.c1 K5.out.1.c2)))
      all_goals (
        have Hfin : Hid (NearTold w g V e0 (.returned (.tuple #[.slice A4 m4 c4, .slice A5 m5 c5, .bool nn, .int .i64 S, .bool true])) w5) :=
          ⟨A4, m4, c4, ts, A5, m5, c5, rs, nn, S, true, rfl, by omega, by omega, HX.out.1.drew.below hB5, hl5, HX.out.2.1, hb5, K5.out.all, Or.inl ⟨_, HD.out, HL.out, rfl, HX.out.2.2.2.symm, HSS.out.symm, HX.out.2.2.1, by rw [hv5]; rfl⟩⟩
        clear k0 k1 K0 K5 H5 hl5 hb5 hv5 hB5 HX HD HL HSS
        go_wp2_with fail
        exact bodyPost_ret (v := .tuple #[.slice A4 m4 c4, .slice A5 m5 c5, .bool nn, .int .i64 S, .bool true]) (by simp [results, Tryd.results12, go_sem]) rfl Hfin.out)
end Go.Proofs.YtijhdlkfihjbiaaDoor
