/- The walks of dyad.Sign, Top, leading, sizes and Cmp. -/
import Derived.Test.YtgacafdkhailmaaDoorDyMake
import Derived.Deep.RegionHeld3
namespace Go.Proofs.YtgacafdkhailmaaDoor
open Go.RowKit

theorem below1 (w : World) (o : Obj) : Below w.heap.size w (w.alloc o) := (Below.refl _ _).alloc (Nat.le_refl _) o

theorem sign_l (v : Int) (g : Bool) (A : Option Addr) (n c : Nat) (xs : List Nat) (e0 : Int) (w : World) (hA : Lim w A n c xs) (hn : n ≤ 4398046511104) (hv : Hid (sgD g (val xs) = v)) :
    Calls Tryd.prog 47 #[.agg #[.bool g, .slice A n c, .int .i64 e0]] w fun e w' => e = .returned (.int .i64 v) ∧ Below w.heap.size w w' := by
  obtain ⟨b, hb⟩ : ∃ b, blen (val xs) = b := ⟨_, rfl⟩
  have HA := Lib.hid (hA.alloc (.cells #[.bool g, .slice A n c, .int .i64 e0] 28))
  have H1 := Lib.hid (below1 w (.cells #[.bool g, .slice A n c, .int .i64 e0] 28))
  have Hb := Lib.hid hb
  have hv' := hv.out
  clear hv
  by_cases h0 : val xs = 0
  · obtain rfl : b = 0 := by rw [← hb, h0]; rfl
    obtain rfl : v = 0 := by rw [← hv', h0]; rfl
    clear hA h0 hv' hb
    go_enter Tryd.func47, Tryd.ntmps47
    go_wp2_with fail
    refine (bits_l 0 A n c xs _ HA.out (by omega) Hb).mono ?_
    rintro e w' ⟨rfl, rfl⟩
    go_wp2
    go_ret
    exact ⟨rfl, H1.out⟩
  · have hb1 : b ≠ 0 := fun h => h0 (blen_zero_iff.1 (hb.trans h))
    have hb2 : decide ((b : Int) = 0) = false := decide_eq_false (by omega)
    rw [sgD, if_neg h0] at hv'
    clear hA h0 hb
    cases g
    · obtain rfl : v = 1 := hv'.symm
      go_enter Tryd.func47, Tryd.ntmps47
      go_wp2_with fail
      refine (bits_l b A n c xs _ HA.out (by omega) Hb).mono ?_
      rintro e w' ⟨rfl, rfl⟩
      go_wp2
      go_ret
      exact ⟨rfl, H1.out⟩
    · obtain rfl : v = -1 := hv'.symm
      go_enter Tryd.func47, Tryd.ntmps47
      go_wp2_with fail
      refine (bits_l b A n c xs _ HA.out (by omega) Hb).mono ?_
      rintro e w' ⟨rfl, rfl⟩
      go_wp2
      go_ret
      exact ⟨rfl, H1.out⟩

theorem top_l (v : Int) (g : Bool) (A : Option Addr) (n c : Nat) (xs : List Nat) (e0 : Int) (w : World) (hA : Lim w A n c xs) (hn : n ≤ 4294967296) (h0 : val xs ≠ 0) (hv : Hid (topD (val xs) e0 = v)) :
    Calls Tryd.prog 41 #[.agg #[.bool g, .slice A n c, .int .i64 e0]] w fun e w' => e = .returned (.tuple #[.int .i64 v, .bool true]) ∧ Below w.heap.size w w' := by
  obtain ⟨b, hb⟩ : ∃ b, blen (val xs) = b := ⟨_, rfl⟩
  obtain ⟨h, hh⟩ : ∃ h, held e0 = h := ⟨_, rfl⟩
  have HA := Lib.hid (hA.alloc (.cells #[.bool g, .slice A n c, .int .i64 e0] 28))
  have H1 := Lib.hid (below1 w (.cells #[.bool g, .slice A n c, .int .i64 e0] 28))
  have Hb := Lib.hid hb
  have Hh := Lib.hid hh
  have hbl := hA.blen_le
  have hhb := held_bd e0
  have hv' := hv.out
  rw [topD, hb, hh] at hv'
  rw [hb] at hbl
  rw [hh] at hhb
  have hb1 : b ≠ 0 := fun h => h0 (blen_zero_iff.1 (hb.trans h))
  have hb2 : decide ((b : Int) = 0) = false := decide_eq_false (by omega)
  have Hv : Hid ((b : Int) - 1 + h = v) := hv'
  clear hA h0 hb hh hv hv'
  go_enter Tryd.func41, Tryd.ntmps41
  go_wp2_with fail
  refine (bits_l b A n c xs _ HA.out (by omega) Hb).mono ?_
  rintro e w' ⟨rfl, rfl⟩
  go_wp2_with fail
  refine (held_l e0 h _ Hh).mono ?_
  rintro e w' ⟨rfl, rfl⟩
  go_wp2
  go_ret2
  exact ⟨by rw [← Hv.out]; rfl, H1.out⟩

theorem isnan_l (x : Int) (w : World) : Calls Tryd.prog 68 #[.int .i64 x] w fun e w' => e = .returned (.bool false) ∧ w = w' := by
  go_enter Tryd.func68, Tryd.ntmps68
  go_wp2
  go_ret
  exact ⟨by simp, rfl⟩
theorem compare_l (x y v : Int) (w : World) (hv : Hid (cmpI x y = v)) : Calls Tryd.prog 48 #[.int .i64 x, .int .i64 y] w fun e w' => e = .returned (.int .i64 v) ∧ w = w' := by
  have hv' := hv.out
  clear hv
  rcases Int.lt_trichotomy x y with h | h | h
  · rw [cmpI_lt h] at hv'
    subst hv'
    go_enter Tryd.func48, Tryd.ntmps48
    go_wp2_with fail
    refine (isnan_l x w).mono ?_
    rintro e w' ⟨rfl, rfl⟩
    go_wp2_with fail
    refine (isnan_l y w).mono ?_
    rintro e w' ⟨rfl, rfl⟩
    go_wp2
    go_ret
    exact ⟨rfl, rfl⟩
  · rw [cmpI_eq h] at hv'
    subst hv'
    subst h
    go_enter Tryd.func48, Tryd.ntmps48
    go_wp2_with fail
    refine (isnan_l x w).mono ?_
    rintro e w' ⟨rfl, rfl⟩
    go_wp2_with fail
    refine (isnan_l x w).mono ?_
    rintro e w' ⟨rfl, rfl⟩
    go_wp2
    go_ret
    exact ⟨rfl, rfl⟩
  · rw [cmpI_gt h] at hv'
    subst hv'
    have h1 : decide (x < y) = false := decide_eq_false (by omega)
    go_enter Tryd.func48, Tryd.ntmps48
    go_wp2_with fail
    refine (isnan_l x w).mono ?_
    rintro e w' ⟨rfl, rfl⟩
    go_wp2_with fail
    refine (isnan_l y w).mono ?_
    rintro e w' ⟨rfl, rfl⟩
    go_wp2
    go_ret
    exact ⟨rfl, rfl⟩

theorem lead_ge (v : Int) (A : Option Addr) (n c : Nat) (xs : List Nat) (B : Option Addr) (m d : Nat) (ys : List Nat) (w : World) (hA : Lim w A n c xs) (hB : Lim w B m d ys) (hn : n ≤ 4294967296) (hm : m ≤ 4294967296) (hT : Tab w) (hle : blen (val ys) ≤ blen (val xs)) (hv : Hid (leadD (val xs) (val ys) = v)) :
    Calls Tryd.prog 69 #[.slice A n c, .slice B m d] w fun e w' => e = .returned (.int .i64 v) ∧ Below w.heap.size w w' := by
  obtain ⟨k, hk⟩ : ∃ k, blen (val xs) - blen (val ys) = k := ⟨_, rfl⟩
  have hcut := lead_cut hle hk
  rw [hv.out] at hcut
  obtain ⟨bx, hbx⟩ : ∃ b, blen (val xs) = b := ⟨_, rfl⟩
  obtain ⟨by_, hby⟩ : ∃ b, blen (val ys) = b := ⟨_, rfl⟩
  obtain ⟨bb, hbb⟩ : ∃ bb, decide (val xs % 2 ^ k ≠ 0) = bb := ⟨_, rfl⟩
  obtain ⟨f, hf⟩ : ∃ f, cmpZ (val xs / 2 ^ k) (val ys) = f := ⟨_, rfl⟩
  have hcase : (f = 0 ∧ bb = true ∧ v = 1) ∨ (f = 0 ∧ bb = false ∧ v = 0) ∨ (f ≠ 0 ∧ v = f) := by
    rcases hcut with ⟨h1, h2, h3⟩ | ⟨h1, h3⟩
    · exact Or.inl ⟨by rw [← hf]; exact cmpZ_eq h1, by rw [← hbb]; exact decide_eq_true h2, h3⟩
    · by_cases h0 : f = 0
      · have h4 : val xs / 2 ^ k = val ys := by
          rw [← hf] at h0
          rcases Nat.lt_trichotomy (val xs / 2 ^ k) (val ys) with h | h | h
          · rw [cmpZ_lt h] at h0; omega
          · exact h
          · rw [cmpZ_gt h] at h0; omega
        have h5 : val xs % 2 ^ k = 0 := by rcases h1 with h1 | h1; exact absurd h4 h1; exact h1
        exact Or.inr (Or.inl ⟨h0, by rw [← hbb]; exact decide_eq_false (fun h => h h5), by rw [h3, hf, h0]⟩)
      · exact Or.inr (Or.inr ⟨h0, by rw [h3, hf]⟩)
  have hbl := hA.blen_le
  have hbl2 := hB.blen_le
  rw [hbx, hby] at hk hle
  rw [hbx] at hbl
  rw [hby] at hbl2
  have hki : (bx : Int) - by_ = (k : Int) := by omega
  have hk9 : k ≤ 64 * n := by omega
  have Hx := Lib.hid hbx
  have Hy := Lib.hid hby
  have HA := Lib.hid hA
  have HB := Lib.hid hB
  have HT := Lib.hid hT
  have Hbb := Lib.hid hbb
  have Hf := Lib.hid hf
  clear hA hB hT hbx hby hbb hf hcut hv hk hle
  go_enter Tryd.func69, Tryd.ntmps69
  go_wp2_with fail
  refine (bits_l bx A n c xs _ HA.out (by omega) Hx).mono ?_
  rintro e w' ⟨rfl, rfl⟩
  go_wp2_with fail
  refine (bits_l by_ B m d ys _ HB.out (by omega) Hy).mono ?_
  rintro e w' ⟨rfl, rfl⟩
  go_wp2_with fail
  refine (shr_l k A n c xs _ HA.out (by omega) HT.out (by omega) bb Hbb).mono ?_
  rintro e w1 ⟨A1, m1, c1, us, rfl, hm1, hl1, hb1, hv1, hB1⟩
  have H2 := Lib.hid (cmp_b f A1 m1 c1 us B m d ys w1 hl1 (HB.out.below hB1) (by omega) (by omega) (by rw [hv1]; exact Hf))
  have HS := Lib.hid hB1
  clear hl1 hb1 hv1 hB1 HA HB HT Hx Hy Hbb Hf
  rcases hcase with ⟨rfl, rfl, rfl⟩ | ⟨rfl, rfl, rfl⟩ | ⟨hf0, rfl⟩
  · go_wp2_with fail
    refine H2.out.mono ?_
    rintro e w2 ⟨rfl, hB2⟩
    have Hfin := Lib.hid (HS.out.trans (hB2.mono HS.out.size))
    clear hB2 HS H2
    go_wp2
    go_ret
    exact ⟨rfl, Hfin.out⟩
  · go_wp2_with fail
    refine H2.out.mono ?_
    rintro e w2 ⟨rfl, hB2⟩
    have Hfin := Lib.hid (HS.out.trans (hB2.mono HS.out.size))
    clear hB2 HS H2
    go_wp2
    go_ret
    exact ⟨rfl, Hfin.out⟩
  · have hf1 : decide (v = 0) = false := decide_eq_false hf0
    go_wp2_with fail
    refine H2.out.mono ?_
    rintro e w2 ⟨rfl, hB2⟩
    have Hfin := Lib.hid (HS.out.trans (hB2.mono HS.out.size))
    clear hB2 HS H2
    go_wp2
    go_ret
    exact ⟨rfl, Hfin.out⟩

theorem lead_any (v : Int) (A : Option Addr) (n c : Nat) (xs : List Nat) (B : Option Addr) (m d : Nat) (ys : List Nat) (w : World) (hA : Lim w A n c xs) (hB : Lim w B m d ys) (hn : n ≤ 4294967296) (hm : m ≤ 4294967296) (hT : Tab w) (hv : Hid (leadD (val xs) (val ys) = v)) :
    Calls Tryd.prog 69 #[.slice A n c, .slice B m d] w fun e w' => e = .returned (.int .i64 v) ∧ Below w.heap.size w w' := by
  rcases Nat.lt_or_ge (blen (val xs)) (blen (val ys)) with hlt | hle
  · have hvb := cmpZ_bd (val xs * 2 ^ (blen (val ys) - blen (val xs))) (val ys * 2 ^ (blen (val xs) - blen (val ys)))
    rw [show cmpZ _ _ = v from hv.out] at hvb
    obtain ⟨u, hu⟩ : ∃ u, leadD (val ys) (val xs) = u := ⟨_, rfl⟩
    have huv : u = -v := by rw [← hu, leadD_swap, hv.out]
    have H1 := Lib.hid (lead_ge u B m d ys A n c xs w hB hA hm hn hT (by omega) hu)
    obtain ⟨bx, hbx⟩ : ∃ b, blen (val xs) = b := ⟨_, rfl⟩
    obtain ⟨by_, hby⟩ : ∃ b, blen (val ys) = b := ⟨_, rfl⟩
    rw [hbx, hby] at hlt
    have hbl := hA.blen_le
    have hbl2 := hB.blen_le
    rw [hbx] at hbl
    rw [hby] at hbl2
    have Hx := Lib.hid hbx
    have Hy := Lib.hid hby
    have HA := Lib.hid hA
    have HB := Lib.hid hB
    have hlt' : decide ((bx : Int) - by_ < 0) = true := decide_eq_true (by omega)
    have hub : -1 ≤ u ∧ u ≤ 1 := by omega
    have Huv : Hid (-u = v) := by show -u = v; omega
    clear hA hB hT hbx hby hu huv hv hvb
    go_enter Tryd.func69, Tryd.ntmps69
    go_wp2_with fail
    refine (bits_l bx A n c xs _ HA.out (by omega) Hx).mono ?_
    rintro e w' ⟨rfl, rfl⟩
    go_wp2_with fail
    refine (bits_l by_ B m d ys _ HB.out (by omega) Hy).mono ?_
    rintro e w' ⟨rfl, rfl⟩
    go_wp2_with fail
    refine H1.out.mono ?_
    rintro e w1 ⟨rfl, hB1⟩
    have Hfin := Lib.hid hB1
    clear hB1 H1 HA HB Hx Hy
    go_wp2
    go_ret
    exact ⟨ret_int Huv.out, Hfin.out⟩
  · exact lead_ge v A n c xs B m d ys w hA hB hn hm hT hle hv

theorem sizes_l (v : Int) (g : Bool) (A : Option Addr) (n c : Nat) (xs : List Nat) (e1 : Int) (k : Bool) (B : Option Addr) (m d : Nat) (ys : List Nat) (e2 : Int) (w : World) (hA : Lim w A n c xs) (hB : Lim w B m d ys) (hn : n ≤ 4294967296) (hm : m ≤ 4294967296) (hT : Tab w) (hx : val xs ≠ 0) (hy : val ys ≠ 0) (hv : Hid (cmpZ (sz (val xs) e1) (sz (val ys) e2) = v)) :
    Calls Tryd.prog 49 #[.agg #[.bool g, .slice A n c, .int .i64 e1], .agg #[.bool k, .slice B m d, .int .i64 e2]] w fun e w' => e = .returned (.int .i64 v) ∧ Below w.heap.size w w' := by
  obtain ⟨t1, ht1⟩ : ∃ t, topD (val xs) e1 = t := ⟨_, rfl⟩
  obtain ⟨t2, ht2⟩ : ∃ t, topD (val ys) e2 = t := ⟨_, rfl⟩
  have a3 : Below w.heap.size w ((w.alloc (.cells #[.bool g, .slice A n c, .int .i64 e1] 28)).alloc (.cells #[.bool k, .slice B m d, .int .i64 e2] 28)) := ((Below.refl _ _).alloc (Nat.le_refl _) _).alloc (by simp) _
  have b1 := (Bd.new w 28 g A n c e1).alloc (.cells #[.bool k, .slice B m d, .int .i64 e2] 28)
  have b2 := Bd.new (w.alloc (.cells #[.bool g, .slice A n c, .int .i64 e1] 28)) 28 k B m d e2
  rw [World.size_alloc] at b2
  have HS := Lib.hid a3
  have Hb1 := Lib.hid b1
  have Hb2 := Lib.hid b2
  have HA := Lib.hid (hA.below a3)
  have HB := Lib.hid (hB.below a3)
  have HT := Lib.hid (hT.below a3)
  have Ht1 := Lib.hid ht1
  have Ht2 := Lib.hid ht2
  have hcase : (t1 ≠ t2 ∧ Hid (cmpI t1 t2 = v)) ∨ (t1 = t2 ∧ Hid (leadD (val xs) (val ys) = v)) := by
    by_cases h : t1 = t2
    · exact Or.inr ⟨h, (cmp_lead hx hy (by rw [ht1, ht2, h])).trans hv.out⟩
    · exact Or.inl ⟨h, by have := cmp_tops hx hy (e := e1) (f := e2) (by rw [ht1, ht2]; exact h); rw [ht1, ht2] at this; exact this.trans hv.out⟩
  clear hA hB hT a3 b1 b2 ht1 ht2 hv
  go_enter Tryd.func49, Tryd.ntmps49
  go_wp2_with fail
  refine (top_l t1 g A n c xs e1 _ HA.out (by omega) hx Ht1).mono ?_
  rintro e w1 ⟨rfl, hB1⟩
  replace HS := Lib.hid (HS.out.trans (hB1.mono HS.out.size))
  replace Hb1 := Lib.hid (Hb1.out.below hB1)
  replace Hb2 := Lib.hid (Hb2.out.below hB1)
  replace HA := Lib.hid (HA.out.below hB1)
  replace HB := Lib.hid (HB.out.below hB1)
  replace HT := Lib.hid (HT.out.below hB1)
  have x0 := Hb2.out.c0
  have x1 := Hb2.out.c1
  have x2 := Hb2.out.c2
  clear hB1
  go_wp2_with fail
  refine (top_l t2 k B m d ys e2 _ HB.out (by omega) hy Ht2).mono ?_
  rintro e w2 ⟨rfl, hB1⟩
  replace HS := Lib.hid (HS.out.trans (hB1.mono HS.out.size))
  replace Hb1 := Lib.hid (Hb1.out.below hB1)
  replace Hb2 := Lib.hid (Hb2.out.below hB1)
  replace HA := Lib.hid (HA.out.below hB1)
  replace HB := Lib.hid (HB.out.below hB1)
  replace HT := Lib.hid (HT.out.below hB1)
  clear hB1 x0 x1 x2
  rcases hcase with ⟨hne, hv⟩ | ⟨rfl, hv⟩
  · have h1 : decide (t1 = t2) = false := decide_eq_false hne
    go_wp2_with fail
    refine (compare_l t1 t2 v w2 hv).mono ?_
    rintro e w' ⟨rfl, rfl⟩
    go_wp2
    go_ret
    exact ⟨rfl, HS.out⟩
  · have x1 := Hb1.out.c1
    have y1 := Hb2.out.c1
    go_wp2_with fail
    refine (lead_any v A n c xs B m d ys w2 HA.out HB.out hn hm HT.out hv).mono ?_
    rintro e w3 ⟨rfl, hB1⟩
    replace HS := Lib.hid (HS.out.trans (hB1.mono HS.out.size))
    clear hB1 x1 y1
    go_wp2
    go_ret
    exact ⟨rfl, HS.out⟩
end Go.Proofs.YtgacafdkhailmaaDoor
