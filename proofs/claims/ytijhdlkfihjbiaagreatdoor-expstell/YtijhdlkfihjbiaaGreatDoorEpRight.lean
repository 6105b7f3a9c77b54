/- The walks of planimeterref14.Right and Off (written by law_eright.py). -/
import Derived.Test.YtijhdlkfihjbiaaGreatDoorEpRefW
namespace Go.Proofs.YtijhdlkfihjbiaaGreatDoor
open Go.RowKit

/-- May an end be split? -/
def Right14 (V : Nat) (e : Int) : Prop := (-1073741824 ≤ e ∧ e ≤ 1073741824) ∧ blen V ≤ 20000 ∧ -20000 ≤ e ∧ (V = 0 ∨ (blen V : Int) - 1 + e < 12)
instance (V : Nat) (e : Int) : Decidable (Right14 V e) := by unfold Right14; infer_instance

set_option maxHeartbeats 1000000 in
theorem right14_far (g : Bool) (A : Option Addr) (n c : Nat) (ds : List Nat) (e0 : Int) (w : World) (hA : Dig w A n c ds) (_ba : D.Bare ds) (_hn : n ≤ 1000000) (hf : ¬ (-1073741824 ≤ e0 ∧ e0 ≤ 1073741824)) :
    Calls Tryz.prog 19 #[.agg #[.bool g, .slice A n c, .int .i64 e0]] w fun e w' => e = .returned (.bool false) ∧ Below w.heap.size w w' := by
  obtain ⟨b, hb⟩ : ∃ b, blen (D.val ds) = b := ⟨_, rfl⟩
  obtain ⟨t, ht⟩ : ∃ t, rtop (D.val ds) e0 = t := ⟨_, rfl⟩
  have ht' : (b : Int) - 1 + e0 = t := by rw [← ht, ← hb]; rfl
  have H0 := Lib.hid (HoldN3.start (g := g) (e0 := e0) hA)
  have H1 : Hid (∀ u, Calls Tryz.prog 54 #[.agg #[.bool g, .slice A n c, .int .i64 e0]] u fun e w' => e = .returned (.bool false) ∧ Below u.heap.size u w') := fun u => lfits_no g A n c e0 u (by omega)
  clear hA  hb ht ht' hf
  go_enter Tryz.func19, Tryz.ntmps19
  go_wp2_with fail
  refine (H1.out _).mono ?_
  rintro e wH1 ⟨rfl, hB⟩
  replace H0 := Lib.hid (H0.out.below hB)
  clear hB H1
  have x0 := H0.out.1.c0
  have x1 := H0.out.1.c1
  have x2 := H0.out.1.c2
  have Hfin := Lib.hid H0.out.all
  clear H0
  go_wp2
  go_ret
  exact ⟨rfl, Hfin.out⟩

set_option maxHeartbeats 1000000 in
theorem right14_long (g : Bool) (A : Option Addr) (n c : Nat) (ds : List Nat) (e0 : Int) (w : World) (hA : Dig w A n c ds) (ba : D.Bare ds) (hn : n ≤ 1000000) (hf : -1073741824 ≤ e0 ∧ e0 ≤ 1073741824) (h1 : ¬ blen (D.val ds) ≤ 20000) :
    Calls Tryz.prog 19 #[.agg #[.bool g, .slice A n c, .int .i64 e0]] w fun e w' => e = .returned (.bool false) ∧ Below w.heap.size w w' := by
  obtain ⟨b, hb⟩ : ∃ b, blen (D.val ds) = b := ⟨_, rfl⟩
  obtain ⟨t, ht⟩ : ∃ t, rtop (D.val ds) e0 = t := ⟨_, rfl⟩
  have ht' : (b : Int) - 1 + e0 = t := by rw [← ht, ← hb]; rfl
  have H0 := Lib.hid (HoldN3.start (g := g) (e0 := e0) hA)
  have H1 : Hid (∀ u, Calls Tryz.prog 54 #[.agg #[.bool g, .slice A n c, .int .i64 e0]] u fun e w' => e = .returned (.bool true) ∧ Below u.heap.size u w') := fun u => fits_yes g A n c e0 u hf.1 hf.2
  have H3 : Hid (∀ u, HoldN3 w w.heap.size g A n c ds e0 u → Calls Tryz.prog 26 #[.slice A n c] u fun e w' => e = .returned (.int .i64 (b : Int)) ∧ u = w') := fun u hu => lrbits b A n c ds u hu.dig ba (by omega) hb
  rw [hb] at h1
  have c1 : decide ((b : Int) ≤ (20000 : Int)) = false := decide_eq_false (by omega)
  have c1n : decide (b ≤ 20000) = false := decide_eq_false (by omega)
  clear hA ba hb ht ht' hf h1
  go_enter Tryz.func19, Tryz.ntmps19
  go_wp2_with fail
  refine (H1.out _).mono ?_
  rintro e wH1 ⟨rfl, hB⟩
  replace H0 := Lib.hid (H0.out.below hB)
  clear hB H1
  have x0 := H0.out.1.c0
  have x1 := H0.out.1.c1
  have x2 := H0.out.1.c2
  go_wp2_with fail
  refine (H3.out _ H0.out).mono ?_
  rintro e w' ⟨rfl, rfl⟩
  clear H3
  have Hfin := Lib.hid H0.out.all
  clear H0
  go_wp2
  go_ret
  exact ⟨rfl, Hfin.out⟩

set_option maxHeartbeats 1000000 in
theorem right14_low (g : Bool) (A : Option Addr) (n c : Nat) (ds : List Nat) (e0 : Int) (w : World) (hA : Dig w A n c ds) (ba : D.Bare ds) (hn : n ≤ 1000000) (hf : -1073741824 ≤ e0 ∧ e0 ≤ 1073741824) (h1 : blen (D.val ds) ≤ 20000) (h2 : ¬ -20000 ≤ e0) :
    Calls Tryz.prog 19 #[.agg #[.bool g, .slice A n c, .int .i64 e0]] w fun e w' => e = .returned (.bool false) ∧ Below w.heap.size w w' := by
  obtain ⟨b, hb⟩ : ∃ b, blen (D.val ds) = b := ⟨_, rfl⟩
  obtain ⟨t, ht⟩ : ∃ t, rtop (D.val ds) e0 = t := ⟨_, rfl⟩
  have ht' : (b : Int) - 1 + e0 = t := by rw [← ht, ← hb]; rfl
  have H0 := Lib.hid (HoldN3.start (g := g) (e0 := e0) hA)
  have H1 : Hid (∀ u, Calls Tryz.prog 54 #[.agg #[.bool g, .slice A n c, .int .i64 e0]] u fun e w' => e = .returned (.bool true) ∧ Below u.heap.size u w') := fun u => fits_yes g A n c e0 u hf.1 hf.2
  have H3 : Hid (∀ u, HoldN3 w w.heap.size g A n c ds e0 u → Calls Tryz.prog 26 #[.slice A n c] u fun e w' => e = .returned (.int .i64 (b : Int)) ∧ u = w') := fun u hu => lrbits b A n c ds u hu.dig ba (by omega) hb
  rw [hb] at h1
  have c1 : decide ((b : Int) ≤ (20000 : Int)) = true := decide_eq_true (by omega)
  have c1n : decide (b ≤ 20000) = true := decide_eq_true (by omega)
  have c2 : decide ((-20000 : Int) ≤ e0) = false := decide_eq_false (by omega)
  clear hA ba hb ht ht' hf h1 h2
  go_enter Tryz.func19, Tryz.ntmps19
  go_wp2_with fail
  refine (H1.out _).mono ?_
  rintro e wH1 ⟨rfl, hB⟩
  replace H0 := Lib.hid (H0.out.below hB)
  clear hB H1
  have x0 := H0.out.1.c0
  have x1 := H0.out.1.c1
  have x2 := H0.out.1.c2
  go_wp2_with fail
  refine (H3.out _ H0.out).mono ?_
  rintro e w' ⟨rfl, rfl⟩
  clear H3
  have Hfin := Lib.hid H0.out.all
  clear H0
  go_wp2
  go_ret
  exact ⟨rfl, Hfin.out⟩

set_option maxHeartbeats 1000000 in
theorem right14_nil (g : Bool) (A : Option Addr) (n c : Nat) (ds : List Nat) (e0 : Int) (w : World) (hA : Dig w A n c ds) (ba : D.Bare ds) (hn : n ≤ 1000000) (hf : -1073741824 ≤ e0 ∧ e0 ≤ 1073741824) (h1 : blen (D.val ds) ≤ 20000) (h2 : -20000 ≤ e0) (h3 : D.val ds = 0) :
    Calls Tryz.prog 19 #[.agg #[.bool g, .slice A n c, .int .i64 e0]] w fun e w' => e = .returned (.bool true) ∧ Below w.heap.size w w' := by
  obtain ⟨b, hb⟩ : ∃ b, blen (D.val ds) = b := ⟨_, rfl⟩
  obtain ⟨t, ht⟩ : ∃ t, rtop (D.val ds) e0 = t := ⟨_, rfl⟩
  have ht' : (b : Int) - 1 + e0 = t := by rw [← ht, ← hb]; rfl
  have H0 := Lib.hid (HoldN3.start (g := g) (e0 := e0) hA)
  have H1 : Hid (∀ u, Calls Tryz.prog 54 #[.agg #[.bool g, .slice A n c, .int .i64 e0]] u fun e w' => e = .returned (.bool true) ∧ Below u.heap.size u w') := fun u => fits_yes g A n c e0 u hf.1 hf.2
  have H3 : Hid (∀ u, HoldN3 w w.heap.size g A n c ds e0 u → Calls Tryz.prog 26 #[.slice A n c] u fun e w' => e = .returned (.int .i64 (b : Int)) ∧ u = w') := fun u hu => lrbits b A n c ds u hu.dig ba (by omega) hb
  obtain rfl : n = 0 := (dnil_iff hA ba).2 h3
  rw [hb] at h1
  have c1 : decide ((b : Int) ≤ (20000 : Int)) = true := decide_eq_true (by omega)
  have c1n : decide (b ≤ 20000) = true := decide_eq_true (by omega)
  have c2 : decide ((-20000 : Int) ≤ e0) = true := decide_eq_true (by omega)
  clear hA ba hb ht ht' hf h1 h2 h3
  go_enter Tryz.func19, Tryz.ntmps19
  go_wp2_with fail
  refine (H1.out _).mono ?_
  rintro e wH1 ⟨rfl, hB⟩
  replace H0 := Lib.hid (H0.out.below hB)
  clear hB H1
  have x0 := H0.out.1.c0
  have x1 := H0.out.1.c1
  have x2 := H0.out.1.c2
  go_wp2_with fail
  refine (H3.out _ H0.out).mono ?_
  rintro e w' ⟨rfl, rfl⟩
  clear H3
  have Hfin := Lib.hid H0.out.all
  clear H0
  go_wp2
  go_ret
  exact ⟨rfl, Hfin.out⟩

set_option maxHeartbeats 1000000 in
theorem right14_top (g : Bool) (A : Option Addr) (n c : Nat) (ds : List Nat) (e0 : Int) (w : World) (hA : Dig w A n c ds) (ba : D.Bare ds) (hn : n ≤ 1000000) (hf : -1073741824 ≤ e0 ∧ e0 ≤ 1073741824) (h1 : blen (D.val ds) ≤ 20000) (h2 : -20000 ≤ e0) (h3 : D.val ds ≠ 0) :
    Calls Tryz.prog 19 #[.agg #[.bool g, .slice A n c, .int .i64 e0]] w fun e w' => e = .returned (.bool (decide ((blen (D.val ds) : Int) - 1 + e0 < 12))) ∧ Below w.heap.size w w' := by
  obtain ⟨b, hb⟩ : ∃ b, blen (D.val ds) = b := ⟨_, rfl⟩
  obtain ⟨t, ht⟩ : ∃ t, rtop (D.val ds) e0 = t := ⟨_, rfl⟩
  have ht' : (b : Int) - 1 + e0 = t := by rw [← ht, ← hb]; rfl
  have H0 := Lib.hid (HoldN3.start (g := g) (e0 := e0) hA)
  have H1 : Hid (∀ u, Calls Tryz.prog 54 #[.agg #[.bool g, .slice A n c, .int .i64 e0]] u fun e w' => e = .returned (.bool true) ∧ Below u.heap.size u w') := fun u => fits_yes g A n c e0 u hf.1 hf.2
  have H3 : Hid (∀ u, HoldN3 w w.heap.size g A n c ds e0 u → Calls Tryz.prog 26 #[.slice A n c] u fun e w' => e = .returned (.int .i64 (b : Int)) ∧ u = w') := fun u hu => lrbits b A n c ds u hu.dig ba (by omega) hb
  have H4 : Hid (∀ u, HoldN3 w w.heap.size g A n c ds e0 u → Calls Tryz.prog 9 #[.agg #[.bool g, .slice A n c, .int .i64 e0]] u fun e w' => e = .returned (.int .i64 t) ∧ Below u.heap.size u w') := fun u hu => rtop_l t g A n c ds e0 u hu.dig ba (by omega) (by omega) (by omega) ht
  have hn0 : n ≠ 0 := fun h => h3 ((dnil_iff hA ba).1 h)
  have c3 : ((n : Int) == (0 : Int)) = false := beq_eq_false_iff_ne.2 (by omega)
  rw [hb] at h1
  have c1 : decide ((b : Int) ≤ (20000 : Int)) = true := decide_eq_true (by omega)
  have c1n : decide (b ≤ 20000) = true := decide_eq_true (by omega)
  have c2 : decide ((-20000 : Int) ≤ e0) = true := decide_eq_true (by omega)
  obtain ⟨v, hv⟩ : ∃ v, decide ((blen (D.val ds) : Int) - 1 + e0 < 12) = v := ⟨_, rfl⟩
  rw [hv]
  rw [hb, ht'] at hv
  clear hA ba hb ht ht' hf h1 h2 h3
  go_enter Tryz.func19, Tryz.ntmps19
  go_wp2_with fail
  refine (H1.out _).mono ?_
  rintro e wH1 ⟨rfl, hB⟩
  replace H0 := Lib.hid (H0.out.below hB)
  clear hB H1
  have x0 := H0.out.1.c0
  have x1 := H0.out.1.c1
  have x2 := H0.out.1.c2
  go_wp2_with fail
  refine (H3.out _ H0.out).mono ?_
  rintro e w' ⟨rfl, rfl⟩
  clear H3
  go_wp2_with fail
  refine (H4.out _ H0.out).mono ?_
  rintro e wH4 ⟨rfl, hB⟩
  replace H0 := Lib.hid (H0.out.below hB)
  clear hB H4 x0 x1 x2
  have x0 := H0.out.1.c0
  have x1 := H0.out.1.c1
  have x2 := H0.out.1.c2
  have Hfin := Lib.hid H0.out.all
  clear H0
  go_wp2
  go_ret
  exact ⟨rfl, Hfin.out⟩

theorem rright14_l (v : Bool) (g : Bool) (A : Option Addr) (n c : Nat) (ds : List Nat) (e0 : Int) (w : World) (hA : Dig w A n c ds) (ba : D.Bare ds) (hn : n ≤ 1000000) (hv : Hid (decide (Right14 (D.val ds) e0) = v)) :
    Calls Tryz.prog 19 #[.agg #[.bool g, .slice A n c, .int .i64 e0]] w fun e w' => e = .returned (.bool v) ∧ Below w.heap.size w w' := by
  by_cases hf : -1073741824 ≤ e0 ∧ e0 ≤ 1073741824
  · by_cases h1 : blen (D.val ds) ≤ 20000
    · by_cases h2 : -20000 ≤ e0
      · by_cases h3 : D.val ds = 0
        · obtain rfl : v = true := by rw [← hv.out]; exact decide_eq_true ⟨hf, h1, h2, Or.inl h3⟩
          exact right14_nil g A n c ds e0 w hA ba hn hf h1 h2 h3
        · have e : v = decide ((blen (D.val ds) : Int) - 1 + e0 < 12) := by
            rw [← hv.out]
            by_cases h4 : (blen (D.val ds) : Int) - 1 + e0 < 12
            · rw [decide_eq_true h4]; exact decide_eq_true ⟨hf, h1, h2, Or.inr h4⟩
            · rw [decide_eq_false h4]; exact decide_eq_false fun h => by rcases h.2.2.2 with h5 | h5; exact h3 h5; exact h4 h5
          rw [e]
          exact right14_top g A n c ds e0 w hA ba hn hf h1 h2 h3
      · obtain rfl : v = false := by rw [← hv.out]; exact decide_eq_false fun h => h2 h.2.2.1
        exact right14_low g A n c ds e0 w hA ba hn hf h1 h2
    · obtain rfl : v = false := by rw [← hv.out]; exact decide_eq_false fun h => h1 h.2.1
      exact right14_long g A n c ds e0 w hA ba hn hf h1
  · obtain rfl : v = false := by rw [← hv.out]; exact decide_eq_false fun h => hf h.1
    exact right14_far g A n c ds e0 w hA ba hn hf

set_option maxHeartbeats 1000000 in
theorem peoff_l (t : Int) (m : Nat) (w : World) (h1 : -20000 ≤ t) (h2 : t ≤ 20000) (hm : m ≤ 700) :
    Calls Tryz.prog 14 #[.int .i64 t, .int .i64 (m : Int)] w (NTold w ⟨false, 1099511627776, t - (m : Int)⟩ 3) := by
  have a1 := below1 w (.cells #[.bool false, .slice none 0 0, .int .i64 0] 28)
  have HR := Lib.hid (Bd.new w 28 false none 0 0 0)
  have HS := Lib.hid a1
  have H1 := Lib.hid (num_any 1 (by decide) (w.alloc (.cells #[.bool false, .slice none 0 0, .int .i64 0] 28)))
  obtain ⟨k, hk⟩ : ∃ k, t - (m : Int) = k := ⟨_, rfl⟩
  have hm9 : (m : Int) ≤ 700 := by omega
  rw [hk]
  clear a1
  go_enter Tryz.func14, Tryz.ntmps14
  go_wp2_with fail
  refine H1.out.mono ?_
  rintro e w1 ⟨A1, m1, c1, d1, rfl, hm1, hl1, hb1, hv1, hB⟩
  replace HR : Hid (Bd w1 w.heap.size 28 false none 0 0 0) := HR.out.below hB
  replace HS := Lib.hid (HS.out.trans (hB.mono HS.out.size))
  have H2 := rshl_any A1 m1 c1 d1 40 w1 hl1 hb1 (by omega) (by decide)
  rw [hv1] at H2
  replace H2 := Lib.hid H2
  clear hl1 hb1 hv1 hB H1
  go_wp2_with fail
  refine H2.out.mono ?_
  rintro e w2 ⟨A2, m2, c2, d2, rfl, hm2, hl2, hb2, hv2, hB⟩
  have HR2 := HR.out.below hB
  have hm3 : m2 ≤ 3 := dlen_le (k := 41) hl2 hb2 hv2 (by decide) (by decide)
  have Hfin := Lib.hid (put_out (w := w) (o := ⟨false, 1099511627776, k⟩) HR2 (Nat.le_refl _) (HS.out.trans (hB.mono HS.out.size)) hm3 hl2 hb2 (by rw [hv2]))
  have HR_0 := HR2.c0
  have HR_1 := HR2.c1
  have HR_2 := HR2.c2
  have HR_f := HR2.fz
  clear HR HR2 HS hl2 hb2 hv2 hB H2
  go_wp2
  exact bodyPost_ret (v := .agg #[.bool false, .slice A2 m2 c2, .int .i64 k]) (by simp [results, Tryz.results14, go_sem, HR_0, HR_1, HR_2]) rfl Hfin.out
end Go.Proofs.YtijhdlkfihjbiaaGreatDoor
