/- The walks of dyad.told, Make and Bare. -/
import Derived.Test.YtgacafdkhailmaaDoorDyMem
namespace Go.Proofs.YtgacafdkhailmaaDoor
open Go.RowKit

theorem told_any (neg : Bool) (A : Option Addr) (n c : Nat) (xs : List Nat) (e0 : Int) (w : World) (hA : Lim w A n c xs) (hn : n ≤ 4398046511104) (hB : Bare xs) :
    Calls Tryd.prog 57 #[.bool neg, .slice A n c, .int .i64 e0] w (Told w (toldD neg (val xs) e0) n) := by
  obtain ⟨b, hb⟩ : ∃ b, blen (val xs) = b := ⟨_, rfl⟩
  have Hb := Lib.hid hb
  have a3 : ∀ o, Below w.heap.size w (w.alloc o) := fun o => (Below.refl _ _).alloc (Nat.le_refl _) o
  by_cases h0 : val xs = 0
  · obtain rfl : b = 0 := by rw [← hb, h0]; rfl
    have Hfin : Hid (Told w (toldD neg (val xs) e0) n (.returned (.tuple #[.agg #[.bool false, .slice none 0 0, .int .i64 0], .int .i64 0])) (w.alloc (.cells #[.bool false, .slice none 0 0, .int .i64 0] 28))) :=
      ⟨false, none, 0, 0, [], 0, 0, rfl, Nat.zero_le _, Lim.nil _ _ _, rfl, by rw [h0, toldD_zero]; exact ⟨rfl, rfl, rfl, rfl⟩, a3 _⟩
    have HA := Lib.hid hA
    clear hA hB h0 a3 hb
    go_enter Tryd.func57, Tryd.ntmps57
    go_wp2_with fail
    refine (bits_l 0 A n c xs _ (HA.out.alloc _) (by omega) Hb).mono ?_
    rintro e w' ⟨rfl, rfl⟩
    go_wp2
    exact bodyPost_ret (v := .tuple #[.agg #[.bool false, .slice none 0 0, .int .i64 0], .int .i64 0]) (by simp [results, Tryd.results57, go_sem]) rfl Hfin.out
  · have hb1 : b ≠ 0 := fun h => h0 (blen_zero_iff.1 (hb.trans h))
    have hb2 : decide ((b : Int) = 0) = false := decide_eq_false (by omega)
    by_cases h1 : e0 < -1073741824 ∨ 1073741824 < e0
    · have Hfin : Hid (Told w (toldD neg (val xs) e0) n (.returned (.tuple #[.agg #[.bool false, .slice none 0 0, .int .i64 0], .int .i64 2])) (w.alloc (.cells #[.bool false, .slice none 0 0, .int .i64 0] 28))) :=
        ⟨false, none, 0, 0, [], 0, 2, rfl, Nat.zero_le _, Lim.nil _ _ _, rfl, by rw [toldD, if_neg h0, if_pos h1]; exact ⟨rfl, rfl, rfl, rfl⟩, a3 _⟩
      have HA := Lib.hid hA
      clear hA hB h0 a3 hb
      rcases h1 with h1 | h1
      · go_enter Tryd.func57, Tryd.ntmps57
        go_wp2_with fail
        refine (bits_l b A n c xs _ (HA.out.alloc _) (by omega) Hb).mono ?_
        rintro e w' ⟨rfl, rfl⟩
        go_wp2
        exact bodyPost_ret (v := .tuple #[.agg #[.bool false, .slice none 0 0, .int .i64 0], .int .i64 2]) (by simp [results, Tryd.results57, go_sem]) rfl Hfin.out
      · have h2 : decide (e0 < -1073741824) = false := decide_eq_false (by omega)
        go_enter Tryd.func57, Tryd.ntmps57
        go_wp2_with fail
        refine (bits_l b A n c xs _ (HA.out.alloc _) (by omega) Hb).mono ?_
        rintro e w' ⟨rfl, rfl⟩
        go_wp2
        exact bodyPost_ret (v := .tuple #[.agg #[.bool false, .slice none 0 0, .int .i64 0], .int .i64 2]) (by simp [results, Tryd.results57, go_sem]) rfl Hfin.out
    · have Hfin : Hid (Told w (toldD neg (val xs) e0) n (.returned (.tuple #[.agg #[.bool neg, .slice A n c, .int .i64 e0], .int .i64 0])) (w.alloc (.cells #[.bool neg, .slice A n c, .int .i64 e0] 28))) :=
        ⟨neg, A, n, c, xs, e0, 0, rfl, Nat.le_refl _, hA.alloc _, hB, by rw [toldD, if_neg h0, if_neg h1]; exact ⟨rfl, rfl, rfl, rfl⟩, a3 _⟩
      have HA := Lib.hid hA
      have h2 : decide (e0 < -1073741824) = false := decide_eq_false (by omega)
      have h3 : decide (1073741824 < e0) = false := decide_eq_false (by omega)
      clear hA hB h0 a3 hb h1
      go_enter Tryd.func57, Tryd.ntmps57
      go_wp2_with fail
      refine (bits_l b A n c xs _ (HA.out.alloc _) (by omega) Hb).mono ?_
      rintro e w' ⟨rfl, rfl⟩
      go_wp2
      exact bodyPost_ret (v := .tuple #[.agg #[.bool neg, .slice A n c, .int .i64 e0], .int .i64 0]) (by simp [results, Tryd.results57, go_sem]) rfl Hfin.out

theorem low_le_blen (V : Nat) : low V ≤ blen V := by
  rcases Nat.eq_zero_or_pos V with h | h
  · rw [h]; decide
  · obtain ⟨m, hm⟩ := low_spec h
    have h1 := lt_blen V
    rcases Nat.le_total (low V) (blen V) with h2 | h2
    · exact h2
    · have h3 : (2 : Nat) ^ blen V ≤ 2 ^ low V := Nat.pow_le_pow_right (by decide) h2
      have h4 : 2 ^ low V * 1 ≤ 2 ^ low V * (2 * m + 1) := Nat.mul_le_mul_left _ (by omega)
      omega

theorem make_any (neg : Bool) (A : Option Addr) (n c : Nat) (xs : List Nat) (e0 : Int) (w : World) (hA : Lim w A n c xs) (hn : n ≤ 4294967296) (hT : Tab w) :
    Calls Tryd.prog 31 #[.bool neg, .slice A n c, .int .i64 e0] w (Told w (mk neg (val xs) e0) n) := by
  have hl9 := low_le_blen (val xs)
  have hl8 := hA.blen_le
  have Hm : Hid (mk neg (val xs) e0 = toldD neg (val xs / 2 ^ low (val xs)) (held e0 + low (val xs))) := rfl
  obtain ⟨l, hl⟩ : ∃ l, low (val xs) = l := ⟨_, rfl⟩
  obtain ⟨h, hh⟩ : ∃ h, held e0 = h := ⟨_, rfl⟩
  rw [hl, hh] at Hm
  have hb := held_bd e0
  rw [hh] at hb
  rw [hl] at hl9
  have hl7 : l ≤ 64 * n := by omega
  obtain ⟨bb, hbb⟩ : ∃ bb, decide (val xs % 2 ^ l ≠ 0) = bb := ⟨_, rfl⟩
  have HA := Lib.hid hA
  have HT := Lib.hid hT
  have Hhh := Lib.hid hh
  have Hhl := Lib.hid hl
  have Hbb := Lib.hid hbb
  clear hA hT hl hh hbb hl9 hl8
  go_enter Tryd.func31, Tryd.ntmps31
  go_wp2_with fail
  have a3 : Below w.heap.size w (w.alloc (.cells #[.bool false, .slice none 0 0, .int .i64 0] 28)) := (Below.refl _ _).alloc (Nat.le_refl _) _
  have HA3 := Lib.hid (HA.out.below a3)
  have HT3 := Lib.hid (HT.out.below a3)
  have HB3 := Lib.hid (Bd.new w 28 false none 0 0 0)
  have H3 := Lib.hid a3
  clear HA HT a3
  refine (low_l l A n c xs _ HA3.out (by omega) HT3.out Hhl).mono ?_
  rintro e w' ⟨rfl, rfl⟩
  go_wp2_with fail
  refine (shr_l l A n c xs _ HA3.out (by omega) HT3.out (by omega) bb Hbb).mono ?_
  rintro e w1 ⟨A1, m1, c1, us, rfl, hm1, hl1, hb1, hv1, hB1⟩
  have HB1 := Lib.hid (HB3.out.below hB1)
  have HS1 := Lib.hid (below_box hB1)
  have H1 := Lib.hid (told_any neg A1 m1 c1 us (h + l) w1 hl1 (by omega) hb1)
  rw [hv1, ← Hm.out] at H1
  clear hB1 hl1 hb1 hv1 HA3 HT3 HB3 H3 Hbb Hhl
  go_wp2_with fail
  refine (held_l e0 h w1 Hhh).mono ?_
  rintro e w' ⟨rfl, rfl⟩
  go_wp2_with fail
  refine H1.out.mono ?_
  rintro e w2 ⟨g, A2, m2, c2, zs, E, r, rfl, hm2, hl2, hb2, his, hB2⟩
  have HB2 := HB1.out.below hB2
  have Hfin : Hid (Told w (mk neg (val xs) e0) n (.returned (.tuple #[.agg #[.bool g, .slice A2 m2 c2, .int .i64 E], .int .i64 r])) (World.put w2 w.heap.size g A2 m2 c2 E)) :=
    ⟨g, A2, m2, c2, zs, E, r, rfl, by omega, HB2.lim hl2 _ _ _ _ _, hb2, his, below_put (HS1.out.trans (hB2.mono HS1.out.size)) (Nat.le_refl _) _ _ _ _ _⟩
  have x0 := HB2.c0
  have x1 := HB2.c1
  have x2 := HB2.c2
  have xf := HB2.fz
  clear HB2 hB2 HB1 H1 hl2 hb2 his HS1 Hm Hhh
  go_wp2
  exact bodyPost_ret (v := .tuple #[.agg #[.bool g, .slice A2 m2 c2, .int .i64 E], .int .i64 r]) (by simp [results, Tryd.results31, go_sem, x0, x1, x2]) rfl Hfin.out

theorem dbare_any (neg : Bool) (A : Option Addr) (n c : Nat) (xs : List Nat) (e0 : Int) (w : World) (hA : Lim w A n c xs) (hn : n ≤ 4294967296) (hT : Tab w) :
    Calls Tryd.prog 40 #[.agg #[.bool neg, .slice A n c, .int .i64 e0]] w (Told w (mk neg (val xs) e0) n) := by
  have a3 : Below w.heap.size w ((w.alloc (.cells #[.bool neg, .slice A n c, .int .i64 e0] 28)).alloc (.cells #[.bool false, .slice none 0 0, .int .i64 0] 28)) := ((Below.refl _ _).alloc (Nat.le_refl _) _).alloc (by simp) _
  have H1 := Lib.hid (make_any neg A n c xs e0 _ (hA.below a3) hn (hT.below a3))
  have HB3 := Lib.hid (Bd.new (w.alloc (.cells #[.bool neg, .slice A n c, .int .i64 e0] 28)) 28 false none 0 0 0)
  have H3 := Lib.hid a3
  clear a3 hA hT
  go_enter Tryd.func40, Tryd.ntmps40
  go_wp2_with fail
  refine H1.out.mono ?_
  rintro e w2 ⟨g, A2, m2, c2, zs, E, r, rfl, hm2, hl2, hb2, his, hB2⟩
  have HB2 := HB3.out.below hB2
  have Hfin : Hid (Told w (mk neg (val xs) e0) n (.returned (.tuple #[.agg #[.bool g, .slice A2 m2 c2, .int .i64 E], .int .i64 r])) (World.put w2 (w.heap.size + 1) g A2 m2 c2 E)) :=
    ⟨g, A2, m2, c2, zs, E, r, rfl, by omega, by have := HB2.lim hl2 g A2 m2 c2 E; simpa using this, hb2, his, below_put (H3.out.trans (hB2.mono H3.out.size)) (Nat.le_succ _) _ _ _ _ _⟩
  have HB4 : Bd w2 (w.heap.size + 1) 28 false none 0 0 0 := by simpa using HB2
  have x0 := HB4.c0
  have x1 := HB4.c1
  have x2 := HB4.c2
  have xf := HB4.fz
  clear HB2 HB4 hB2 HB3 H1 hl2 hb2 his H3
  go_wp2
  exact bodyPost_ret (v := .tuple #[.agg #[.bool g, .slice A2 m2 c2, .int .i64 E], .int .i64 r]) (by simp [results, Tryd.results40, go_sem, x0, x1, x2]) rfl Hfin.out
end Go.Proofs.YtgacafdkhailmaaDoor
