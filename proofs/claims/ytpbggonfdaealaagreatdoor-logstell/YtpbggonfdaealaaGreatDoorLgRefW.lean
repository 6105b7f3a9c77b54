/- The walks of planimeterref13.Two, Off and Log; of planimeterlaw13.of and minus (written by law_lref.py). -/
import Derived.Test.YtpbggonfdaealaaGreatDoorLgDoc
import Derived.Test.YtpbggonfdaealaaGreatDoorLgRight
import Derived.Test.YtpbggonfdaealaaGreatDoorK5
import Derived.Test.YtpbggonfdaealaaGreatDoorK4
namespace Go.Proofs.YtpbggonfdaealaaGreatDoor
open Go.RowKit

theorem ntold_of {w w' : World} {o : Dy} {M : Nat} {A : Option Addr} {m c : Nat} {ds : List Nat} (hm : m ≤ M) (hl : Dig w' A m c ds) (hb : D.Bare ds) (hv : D.val ds = o.V) (hB : Below w.heap.size w w') : NTold w o M (.returned (.agg #[.bool o.neg, .slice A m c, .int .i64 o.e])) w' := ⟨A, m, c, ds, rfl, hm, hl, hb, hv, hB⟩
theorem put_out {w u : World} {b : Nat} {g0 : Bool} {A0 : Option Addr} {n0 c0 : Nat} {e0 : Int} {o : Dy} {M : Nat} {A : Option Addr} {m c : Nat} {ds : List Nat} (hk : Bd u b 28 g0 A0 n0 c0 e0) (hb0 : w.heap.size ≤ b) (hS : Below w.heap.size w u) (hm : m ≤ M) (hl : Dig u A m c ds) (hb : D.Bare ds) (hv : D.val ds = o.V) :
    NTold w o M (.returned (.agg #[.bool o.neg, .slice A m c, .int .i64 o.e])) (World.put u b o.neg A m c o.e) :=
  ⟨A, m, c, ds, rfl, hm, hk.dig hl _ _ _ _ _, hb, hv, below_put hS hb0 _ _ _ _ _⟩
theorem dig_lt {w : World} {A : Option Addr} {n c k : Nat} {ds : List Nat} (h : Dig w A n c ds) (hn : n ≤ k) : D.val ds < 2 ^ (16 * k) := by
  have := D.val_lt h.words
  rw [h.len, D.pw_two] at this
  exact Nat.lt_of_lt_of_le this (Nat.pow_le_pow_right (by decide) (by omega))

set_option maxHeartbeats 1000000 in
theorem lof_l (g : Bool) (A : Option Addr) (n c : Nat) (xs : List Nat) (e0 : Int) (w : World) (hA : Lim w A n c xs) (hn : n ≤ 200) :
    Calls Tryz.prog 11 #[.agg #[.bool g, .slice A n c, .int .i64 e0]] w (NTold w (nO g (val xs) e0) (4 * n)) := by
  have a3 : Below w.heap.size w ((w.alloc (.cells #[.bool g, .slice A n c, .int .i64 e0] 30)).alloc (.cells #[.bool false, .slice none 0 0, .int .i64 0] 28)) := ((Below.refl _ _).alloc (Nat.le_refl _) _).alloc (by simp) _
  have b2 := Bd.new (w.alloc (.cells #[.bool g, .slice A n c, .int .i64 e0] 30)) 28 false none 0 0 0
  rw [World.size_alloc] at b2
  obtain ⟨o, ho⟩ : ∃ o, nO g (val xs) e0 = o := ⟨_, rfl⟩
  have h1 := rof_any g A n c xs e0 _ (hA.below a3) hn
  rw [ho] at h1 ⊢
  have H1 := Lib.hid h1
  have HB := Lib.hid b2
  have HS := Lib.hid a3
  obtain ⟨og, oV, oE⟩ := o
  clear a3 b2 h1 hA ho
  go_enter Tryz.func11, Tryz.ntmps11
  go_wp2_with fail
  refine H1.out.mono ?_
  rintro e w1 ⟨A1, m1, c1, ds, rfl, hm1, hl1, hb1, hv1, hB1⟩
  have k1 := HB.out.below hB1
  have Hfin := Lib.hid (put_out (w := w) (o := ⟨og, oV, oE⟩) k1 (by omega) (HS.out.trans (hB1.mono HS.out.size)) hm1 hl1 hb1 hv1)
  have u0 := k1.c0
  have u1 := k1.c1
  have u2 := k1.c2
  have zf := k1.fz
  clear H1 HB HS hl1 hb1 hv1 hB1 k1
  go_wp2
  exact bodyPost_ret (v := .agg #[.bool og, .slice A1 m1 c1, .int .i64 oE]) (by simp [results, Tryz.results11, go_sem, u0, u1, u2]) rfl Hfin.out

set_option maxHeartbeats 1000000 in
theorem lminus_l (g : Bool) (A : Option Addr) (n c : Nat) (e0 : Int) (w : World) :
    Calls Tryz.prog 37 #[.agg #[.bool g, .slice A n c, .int .i64 e0]] w fun e w' => e = .returned (.agg #[.bool (!g), .slice A n c, .int .i64 e0]) ∧ Below w.heap.size w w' := by
  have a3 : Below w.heap.size w ((w.alloc (.cells #[.bool (!g), .slice A n c, .int .i64 e0] 28)).alloc (.cells #[.bool (!g), .slice A n c, .int .i64 e0] 28)) := ((Below.refl _ _).alloc (Nat.le_refl _) _).alloc (by simp) _
  have Hfin := Lib.hid a3
  clear a3
  go_enter Tryz.func37, Tryz.ntmps37
  go_wp2
  exact bodyPost_ret (v := .agg #[.bool (!g), .slice A n c, .int .i64 e0]) (by simp [results, Tryz.results37, go_sem]) rfl ⟨rfl, Hfin.out⟩

set_option maxHeartbeats 1000000 in
theorem ltwo_l (s T : Nat) (w : World) (hs : s ≤ 700) (hT : Hid (dA (2 ^ s) 1 3 (s / 3 + 3) = T)) :
    Calls Tryz.prog 43 #[.int .i64 (s : Int)] w (DTells w (T * 2) 55) := by
  have HS := Lib.hid (Below.refl w.heap.size w)
  have H1 := Lib.hid (num_any 1 (by decide) w)
  have hs9 : (s : Int) ≤ 700 := by omega
  go_enter Tryz.func43, Tryz.ntmps43
  go_wp2_with fail
  refine H1.out.mono ?_
  rintro e w1 ⟨A1, m1, c1, d1, rfl, hm1, hl1, hb1, hv1, hB⟩
  replace HS := Lib.hid (HS.out.trans (hB.mono HS.out.size))
  have Ho : Hid (Dig w1 A1 m1 c1 d1 ∧ D.Bare d1 ∧ D.val d1 = 1) := ⟨hl1, hb1, hv1⟩
  clear hl1 hb1 hv1 hB H1
  have H2 := Lib.hid (num_any 3 (by decide) w1)
  go_wp2_with fail
  refine H2.out.mono ?_
  rintro e w2 ⟨A2, m2, c2, d2, rfl, hm2, hl2, hb2, hv2, hB⟩
  replace Ho : Hid (Dig w2 A1 m1 c1 d1 ∧ D.Bare d1 ∧ D.val d1 = 1) := ⟨Ho.out.1.below hB, Ho.out.2⟩
  replace HS := Lib.hid (HS.out.trans (hB.mono HS.out.size))
  have Ht : Hid (Dig w2 A2 m2 c2 d2 ∧ D.Bare d2 ∧ D.val d2 = 3) := ⟨hl2, hb2, hv2⟩
  clear hl2 hb2 hv2 hB H2
  have H3 := ratanh_l s A1 m1 c1 d1 A2 m2 c2 d2 w2 Ho.out.1 Ht.out.1 Ho.out.2.1 Ht.out.2.1 (by omega) (by omega) hs (by rw [Ht.out.2.2]; decide) (by rw [Ho.out.2.2, Ht.out.2.2]; decide)
  rw [Ho.out.2.2, Ht.out.2.2, hT.out] at H3
  replace H3 := Lib.hid H3
  clear Ho Ht
  go_wp2_with fail
  refine H3.out.mono ?_
  rintro e w3 ⟨A3, m3, c3, d3, rfl, hm3, hl3, hb3, hv3, hB⟩
  replace HS := Lib.hid (HS.out.trans (hB.mono HS.out.size))
  have HT3 : Hid (Dig w3 A3 m3 c3 d3 ∧ D.Bare d3 ∧ D.val d3 = T) := ⟨hl3, hb3, hv3⟩
  clear hl3 hb3 hv3 hB H3
  have H4 := Lib.hid (num_any 2 (by decide) w3)
  go_wp2_with fail
  refine H4.out.mono ?_
  rintro e w4 ⟨A4, m4, c4, d4, rfl, hm4, hl4, hb4, hv4, hB⟩
  replace HT3 : Hid (Dig w4 A3 m3 c3 d3 ∧ D.Bare d3 ∧ D.val d3 = T) := ⟨HT3.out.1.below hB, HT3.out.2⟩
  replace HS := Lib.hid (HS.out.trans (hB.mono HS.out.size))
  have H2n : Hid (Dig w4 A4 m4 c4 d4 ∧ D.Bare d4 ∧ D.val d4 = 2) := ⟨hl4, hb4, hv4⟩
  clear hl4 hb4 hv4 hB H4
  have H5 := rmul_any A3 m3 c3 d3 A4 m4 c4 d4 w4 HT3.out.1 H2n.out.1 (by omega) (by omega)
  rw [HT3.out.2.2, H2n.out.2.2] at H5
  replace H5 := Lib.hid H5
  clear HT3 H2n
  go_wp2_with fail
  refine H5.out.mono ?_
  rintro e w5 ⟨A5, m5, c5, d5, rfl, hm5, hl5, hb5, hv5, hB⟩
  replace HS := Lib.hid (HS.out.trans (hB.mono HS.out.size))
  have Hr : Hid (Dig w5 A5 m5 c5 d5 ∧ D.Bare d5 ∧ D.val d5 = T * 2) := ⟨hl5, hb5, hv5⟩
  clear hl5 hb5 hv5 hB H5
  have Hfin : Hid (DTells w (T * 2) 55 (.returned (.slice A5 m5 c5)) w5) := ⟨A5, m5, c5, d5, rfl, by omega, Hr.out.1, Hr.out.2.1, Hr.out.2.2, HS.out⟩
  clear HS Hr
  go_wp2
  go_ret
  exact Hfin.out

set_option maxHeartbeats 1000000 in
theorem loff_neg (k m : Nat) (t : Int) (w : World) (ht : -t = (k : Int)) (hk : k ≤ 1048576) (hm : m ≤ 700) (h0 : k ≠ 0) :
    Calls Tryz.prog 16 #[.int .i64 t, .int .i64 (m : Int)] w (NTold w ⟨false, 1048576 * (2 * k + 4), -(m : Int)⟩ 20) := by
  have a1 := below1 w (.cells #[.bool false, .slice none 0 0, .int .i64 0] 28)
  have HB := Lib.hid (Bd.new w 28 false none 0 0 0)
  have HS := Lib.hid a1
  have d1 : decide (t < (0 : Int)) = true := decide_eq_true (by omega)
  obtain ⟨k2, hk2⟩ : ∃ x, 2 * k = x := ⟨_, rfl⟩
  have e2 : (2 : Int) * (k : Int) = (k2 : Int) := by omega
  obtain ⟨k4, hk4⟩ : ∃ x, k2 + 4 = x := ⟨_, rfl⟩
  have e4 : (k2 : Int) + 4 = (k4 : Int) := by omega
  have hk9 : k4 ≤ 2097156 := by omega
  obtain ⟨mm, hmm⟩ : ∃ x : Int, -(m : Int) = x := ⟨_, rfl⟩
  have wm : IntKind.i64.wrap (-(m : Int)) = mm := by rw [hmm, IntKind.wrap_i64]; omega
  have hmm1 : -700 ≤ mm := by omega
  have hmm2 : mm ≤ 0 := by omega
  rw [hk2, hk4, hmm]
  have H1 := Lib.hid (rwide_l (w.alloc (.cells #[.bool false, .slice none 0 0, .int .i64 0] 28)))
  clear a1 hk2 hk4 h0
  go_enter Tryz.func16, Tryz.ntmps16
  go_wp2_with fail
  refine H1.out.mono ?_
  rintro e w1 ⟨A1, m1, c1, d1, rfl, hm1, hl1, hb1, hv1, hB⟩
  replace HB : Hid (Bd w1 w.heap.size 28 false none 0 0 0) := HB.out.below hB
  replace HS := Lib.hid (HS.out.trans (hB.mono HS.out.size))
  have Hw : Hid (Dig w1 A1 m1 c1 d1 ∧ D.Bare d1 ∧ D.val d1 = 1048576) := ⟨hl1, hb1, hv1⟩
  clear hl1 hb1 hv1 hB H1
  have H2 := Lib.hid (num_any k4 (by omega) w1)
  go_wp2_with fail
  refine H2.out.mono ?_
  rintro e w2 ⟨A2, m2, c2, d2, rfl, hm2, hl2, hb2, hv2, hB⟩
  replace HB : Hid (Bd w2 w.heap.size 28 false none 0 0 0) := HB.out.below hB
  replace Hw : Hid (Dig w2 A1 m1 c1 d1 ∧ D.Bare d1 ∧ D.val d1 = 1048576) := ⟨Hw.out.1.below hB, Hw.out.2⟩
  replace HS := Lib.hid (HS.out.trans (hB.mono HS.out.size))
  have Hk : Hid (Dig w2 A2 m2 c2 d2 ∧ D.Bare d2 ∧ D.val d2 = k4) := ⟨hl2, hb2, hv2⟩
  clear hl2 hb2 hv2 hB H2
  have H3 := rmul_any A1 m1 c1 d1 A2 m2 c2 d2 w2 Hw.out.1 Hk.out.1 (by omega) (by omega)
  rw [Hw.out.2.2, Hk.out.2.2] at H3
  replace H3 := Lib.hid H3
  clear Hw Hk
  go_wp2_with fail
  refine H3.out.mono ?_
  rintro e w3 ⟨A3, m3, c3, d3, rfl, hm3, hl3, hb3, hv3, hB⟩
  replace HB : Hid (Bd w3 w.heap.size 28 false none 0 0 0) := HB.out.below hB
  replace HS := Lib.hid (HS.out.trans (hB.mono HS.out.size))
  have Hr : Hid (Dig w3 A3 m3 c3 d3 ∧ D.Bare d3 ∧ D.val d3 = 1048576 * k4) := ⟨hl3, hb3, hv3⟩
  clear hl3 hb3 hv3 hB H3
  have Hfin := Lib.hid (put_out (w := w) (o := ⟨false, 1048576 * k4, mm⟩) (M := 20) HB.out (Nat.le_refl _) HS.out (by omega) Hr.out.1 Hr.out.2.1 Hr.out.2.2)
  have HB_0 := HB.out.c0
  have HB_1 := HB.out.c1
  have HB_2 := HB.out.c2
  have HB_f := HB.out.fz
  clear HB HS Hr
  go_wp2
  exact bodyPost_ret (v := .agg #[.bool false, .slice A3 m3 c3, .int .i64 mm]) (by simp [results, Tryz.results16, go_sem, HB_0, HB_1, HB_2]) rfl Hfin.out

set_option maxHeartbeats 1000000 in
theorem loff_pos (k m : Nat) (w : World) (hk : k ≤ 1048576) (hm : m ≤ 700) :
    Calls Tryz.prog 16 #[.int .i64 (k : Int), .int .i64 (m : Int)] w (NTold w ⟨false, 1048576 * (2 * k + 4), -(m : Int)⟩ 20) := by
  have a1 := below1 w (.cells #[.bool false, .slice none 0 0, .int .i64 0] 28)
  have HB := Lib.hid (Bd.new w 28 false none 0 0 0)
  have HS := Lib.hid a1
  have d1 : decide ((k : Int) < (0 : Int)) = false := decide_eq_false (by omega)
  obtain ⟨k2, hk2⟩ : ∃ x, 2 * k = x := ⟨_, rfl⟩
  have e2 : (2 : Int) * (k : Int) = (k2 : Int) := by omega
  obtain ⟨k4, hk4⟩ : ∃ x, k2 + 4 = x := ⟨_, rfl⟩
  have e4 : (k2 : Int) + 4 = (k4 : Int) := by omega
  have hk9 : k4 ≤ 2097156 := by omega
  obtain ⟨mm, hmm⟩ : ∃ x : Int, -(m : Int) = x := ⟨_, rfl⟩
  have wm : IntKind.i64.wrap (-(m : Int)) = mm := by rw [hmm, IntKind.wrap_i64]; omega
  have hmm1 : -700 ≤ mm := by omega
  have hmm2 : mm ≤ 0 := by omega
  rw [hk2, hk4, hmm]
  have H1 := Lib.hid (rwide_l (w.alloc (.cells #[.bool false, .slice none 0 0, .int .i64 0] 28)))
  clear a1 hk2 hk4
  go_enter Tryz.func16, Tryz.ntmps16
  go_wp2_with fail
  refine H1.out.mono ?_
  rintro e w1 ⟨A1, m1, c1, d1, rfl, hm1, hl1, hb1, hv1, hB⟩
  replace HB : Hid (Bd w1 w.heap.size 28 false none 0 0 0) := HB.out.below hB
  replace HS := Lib.hid (HS.out.trans (hB.mono HS.out.size))
  have Hw : Hid (Dig w1 A1 m1 c1 d1 ∧ D.Bare d1 ∧ D.val d1 = 1048576) := ⟨hl1, hb1, hv1⟩
  clear hl1 hb1 hv1 hB H1
  have H2 := Lib.hid (num_any k4 (by omega) w1)
  go_wp2_with fail
  refine H2.out.mono ?_
  rintro e w2 ⟨A2, m2, c2, d2, rfl, hm2, hl2, hb2, hv2, hB⟩
  replace HB : Hid (Bd w2 w.heap.size 28 false none 0 0 0) := HB.out.below hB
  replace Hw : Hid (Dig w2 A1 m1 c1 d1 ∧ D.Bare d1 ∧ D.val d1 = 1048576) := ⟨Hw.out.1.below hB, Hw.out.2⟩
  replace HS := Lib.hid (HS.out.trans (hB.mono HS.out.size))
  have Hk : Hid (Dig w2 A2 m2 c2 d2 ∧ D.Bare d2 ∧ D.val d2 = k4) := ⟨hl2, hb2, hv2⟩
  clear hl2 hb2 hv2 hB H2
  have H3 := rmul_any A1 m1 c1 d1 A2 m2 c2 d2 w2 Hw.out.1 Hk.out.1 (by omega) (by omega)
  rw [Hw.out.2.2, Hk.out.2.2] at H3
  replace H3 := Lib.hid H3
  clear Hw Hk
  go_wp2_with fail
  refine H3.out.mono ?_
  rintro e w3 ⟨A3, m3, c3, d3, rfl, hm3, hl3, hb3, hv3, hB⟩
  replace HB : Hid (Bd w3 w.heap.size 28 false none 0 0 0) := HB.out.below hB
  replace HS := Lib.hid (HS.out.trans (hB.mono HS.out.size))
  have Hr : Hid (Dig w3 A3 m3 c3 d3 ∧ D.Bare d3 ∧ D.val d3 = 1048576 * k4) := ⟨hl3, hb3, hv3⟩
  clear hl3 hb3 hv3 hB H3
  have Hfin := Lib.hid (put_out (w := w) (o := ⟨false, 1048576 * k4, mm⟩) (M := 20) HB.out (Nat.le_refl _) HS.out (by omega) Hr.out.1 Hr.out.2.1 Hr.out.2.2)
  have HB_0 := HB.out.c0
  have HB_1 := HB.out.c1
  have HB_2 := HB.out.c2
  have HB_f := HB.out.fz
  clear HB HS Hr
  go_wp2
  exact bodyPost_ret (v := .agg #[.bool false, .slice A3 m3 c3, .int .i64 mm]) (by simp [results, Tryz.results16, go_sem, HB_0, HB_1, HB_2]) rfl Hfin.out

theorem loff_l (t : Int) (m : Nat) (w : World) (h1 : -1048576 ≤ t) (h2 : t ≤ 1048576) (hm : m ≤ 700) :
    Calls Tryz.prog 16 #[.int .i64 t, .int .i64 (m : Int)] w (NTold w ⟨false, docW t, -(m : Int)⟩ 20) := by
  rcases Int.lt_or_le t 0 with h | h
  · exact loff_neg t.natAbs m t w (by omega) (by omega) hm (by omega)
  · obtain ⟨k, rfl⟩ := Int.eq_ofNat_of_zero_le h
    exact loff_pos k m w (by omega) hm

set_option maxHeartbeats 4000000 in
set_option maxRecDepth 20000 in
theorem llog_neg (V : Nat) (E : Int) (k m Av Tv : Nat) (t : Int) (o : Dy) (A : Option Addr) (n c : Nat) (ds : List Nat) (w : World) (hA : Dig w A n c ds) (ba : D.Bare ds) (hv : D.val ds = V) (hn : n ≤ 290) (hV : V ≠ 0) (hb : blen V ≤ 4000) (hE1 : -4294967296 ≤ E) (hE2 : E ≤ 4294967296) (ht : rtop V E = t) (htk : -t = (k : Int)) (hk : k ≤ 1048576) (h0 : k ≠ 0) (hm : m ≤ 700)
    (hAv : dA (2 ^ m) (dnX V) (dnY V) (m / 3 + 3) = Av) (hTv : dA (2 ^ m) 1 3 (m / 3 + 3) = Tv) (ho : AddsTo false true (Av * 2) (Tv * 2 * k) (-(m : Int)) (-(m : Int)) o) :
    Calls Tryz.prog 15 #[.agg #[.bool false, .slice A n c, .int .i64 E], .int .i64 (m : Int)] w (NTold w o 100001) := by
  have a1 : Below w.heap.size w ((w.alloc (.cells #[.bool false, .slice A n c, .int .i64 E] 28)).alloc (.cells #[.bool false, .slice none 0 0, .int .i64 0] 28)) := ((Below.refl _ _).alloc (Nat.le_refl _) _).alloc (by simp) _
  have b1 := (Bd.new w 28 false A n c E).alloc (.cells #[.bool false, .slice none 0 0, .int .i64 0] 28)
  have b2 := Bd.new (w.alloc (.cells #[.bool false, .slice A n c, .int .i64 E] 28)) 28 false none 0 0 0
  rw [World.size_alloc] at b2
  have HX := Lib.hid b1
  have HR := Lib.hid b2
  have HS := Lib.hid a1
  have HV : Hid (Dig ((w.alloc (.cells #[.bool false, .slice A n c, .int .i64 E] 28)).alloc (.cells #[.bool false, .slice none 0 0, .int .i64 0] 28)) A n c ds ∧ D.Bare ds ∧ D.val ds = V) := ⟨hA.below a1, ba, hv⟩
  obtain ⟨bl, hbl⟩ : ∃ x, blen V = x := ⟨_, rfl⟩
  obtain ⟨j, hj⟩ : ∃ x, bl - 1 = x := ⟨_, rfl⟩
  have hbp := blen_pos hV
  have ej : (bl : Int) - 1 = (j : Int) := by omega
  have hj9 : j ≤ 4000 := by omega
  obtain ⟨p, hp⟩ : ∃ x, 2 ^ j = x := ⟨_, rfl⟩
  obtain ⟨f1, f2, f3, f4⟩ := dn_facts hV
  have eX : dnX V = V - p := by unfold dnX; rw [hbl, hj, hp]
  have eY : dnY V = V + p := by unfold dnY; rw [hbl, hj, hp]
  rw [hbl, hj, hp] at f1
  rw [eX, eY] at f3 hAv
  rw [eY] at f4
  have HF : Hid (p ≤ V ∧ 3 * (V - p) ≤ V + p ∧ V + p ≠ 0 ∧ 2 ^ j = p ∧ dA (2 ^ m) (V - p) (V + p) (m / 3 + 3) = Av ∧ blen V = bl ∧ rtop V E = t) := ⟨f1, f3, f4, hp, hAv, hbl, ht⟩
  have HV0 : Hid (Dig w A n c ds ∧ D.Bare ds ∧ D.val ds = V) := ⟨hA, ba, hv⟩
  have HTv := Lib.hid hTv
  have Ho := Lib.hid ho
  obtain ⟨mm, hmm⟩ : ∃ x : Int, -(m : Int) = x := ⟨_, rfl⟩
  have wm : IntKind.i64.wrap (-(m : Int)) = mm := by rw [hmm, IntKind.wrap_i64]; omega
  have hmm1 : -700 ≤ mm := by omega
  have hmm2 : mm ≤ 0 := by omega
  rw [hmm] at Ho
  have hm9 : (m : Int) ≤ 700 := by omega
  have d1 : decide (t < (0 : Int)) = true := decide_eq_true (by omega)
  have hk9 : (k : Int) ≤ 1048576 := by omega
  obtain ⟨og, oV, oE⟩ := o
  clear a1 b1 b2 hA ba hv hbl hj hbp hp f1 f2 f3 f4 eX eY hAv hTv ho ht hb hV h0
  go_enter Tryz.func15, Tryz.ntmps15
  have HX_0 := HX.out.c0
  have HX_1 := HX.out.c1
  have HX_2 := HX.out.c2
  have H1 := Lib.hid (lrbits bl A n c ds ((w.alloc (.cells #[.bool false, .slice A n c, .int .i64 E] 28)).alloc (.cells #[.bool false, .slice none 0 0, .int .i64 0] 28)) HV.out.1 HV.out.2.1 (by omega) (by rw [HV.out.2.2]; exact HF.out.2.2.2.2.2.1))
  go_wp2_with fail
  refine H1.out.mono ?_
  rintro e w' ⟨rfl, rfl⟩
  clear H1
  have H2 := Lib.hid (num_any 1 (by decide) ((w.alloc (.cells #[.bool false, .slice A n c, .int .i64 E] 28)).alloc (.cells #[.bool false, .slice none 0 0, .int .i64 0] 28)))
  go_wp2_with fail
  refine H2.out.mono ?_
  rintro e w1 ⟨A1, m1, c1, d1, rfl, hm1, hl1, hb1, hv1, hB⟩
  clear HX_0 HX_1 HX_2
  replace HX : Hid (Bd w1 w.heap.size 28 false A n c E) := HX.out.below hB
  replace HR : Hid (Bd w1 (w.heap.size + 1) 28 false none 0 0 0) := HR.out.below hB
  replace HV : Hid (Dig w1 A n c ds ∧ D.Bare ds ∧ D.val ds = V) := ⟨HV.out.1.below hB, HV.out.2⟩
  replace HS := Lib.hid (HS.out.trans (hB.mono HS.out.size))
  have H1n : Hid (Dig w1 A1 m1 c1 d1 ∧ D.Bare d1 ∧ D.val d1 = 1) := ⟨hl1, hb1, hv1⟩
  clear hl1 hb1 hv1 hB H2
  have H3 := rshl_any A1 m1 c1 d1 j w1 H1n.out.1 H1n.out.2.1 (by omega) (by omega)
  rw [H1n.out.2.2, Nat.one_mul, HF.out.2.2.2.1] at H3
  replace H3 := Lib.hid H3
  clear H1n
  go_wp2_with fail
  refine H3.out.mono ?_
  rintro e w2 ⟨A2, m2, c2, d2, rfl, hm2, hl2, hb2, hv2, hB⟩
  replace HX : Hid (Bd w2 w.heap.size 28 false A n c E) := HX.out.below hB
  replace HR : Hid (Bd w2 (w.heap.size + 1) 28 false none 0 0 0) := HR.out.below hB
  replace HV : Hid (Dig w2 A n c ds ∧ D.Bare ds ∧ D.val ds = V) := ⟨HV.out.1.below hB, HV.out.2⟩
  replace HS := Lib.hid (HS.out.trans (hB.mono HS.out.size))
  have Hp0 : Hid (Dig w2 A2 m2 c2 d2 ∧ D.Bare d2 ∧ D.val d2 = p) := ⟨hl2, hb2, hv2⟩
  clear hl2 hb2 hv2 hB H3
  have hV2 := blen_le_iff.1 (show blen V ≤ bl by rw [HF.out.2.2.2.2.2.1]; exact Nat.le_refl _)
  have hmp : m2 ≤ 300 := dlen_le Hp0.out.1 Hp0.out.2.1 Hp0.out.2.2 (k := bl) (Nat.lt_of_le_of_lt HF.out.1 hV2) (by omega)
  have hV3 : V + p < 2 ^ (bl + 1) := by have h1 := HF.out.1; rw [Nat.pow_succ]; omega
  have HV3 := Lib.hid hV3
  clear hV2 hV3
  have bd := below_drew w2
  replace HX : Hid (Bd w2.drew w.heap.size 28 false A n c E) := HX.out.below bd
  replace HR : Hid (Bd w2.drew (w.heap.size + 1) 28 false none 0 0 0) := HR.out.below bd
  replace HV : Hid (Dig w2.drew A n c ds ∧ D.Bare ds ∧ D.val ds = V) := ⟨HV.out.1.below bd, HV.out.2⟩
  replace Hp0 : Hid (Dig w2.drew A2 m2 c2 d2 ∧ D.Bare d2 ∧ D.val d2 = p) := ⟨Hp0.out.1.below bd, Hp0.out.2⟩
  replace HS := Lib.hid (HS.out.trans (bd.mono HS.out.size))
  clear bd
  have Ka : Hid (∀ u, Below w2.drew.heap.size w2.drew u → Calls Tryz.prog 39 #[.slice A n c, .slice A2 m2 c2] u (DTells u (V - p) n)) := fun u hu => by have h := rsub_any A n c ds A2 m2 c2 d2 u (HV.out.1.below hu) (Hp0.out.1.below hu) Hp0.out.2.1 (by rw [HV.out.2.2, Hp0.out.2.2]; exact HF.out.1) (by omega) (by omega); rw [HV.out.2.2, Hp0.out.2.2] at h; exact h
  have Kb : Hid (∀ u, Below w2.drew.heap.size w2.drew u → Calls Tryz.prog 40 #[.slice A n c, .slice A2 m2 c2] u (DTells u (V + p) 301)) := fun u hu => by have h := radd_any A n c ds A2 m2 c2 d2 u (HV.out.1.below hu) (Hp0.out.1.below hu) HV.out.2.1 Hp0.out.2.1 (by omega) (by omega); rw [HV.out.2.2, Hp0.out.2.2] at h; exact h.mono fun e w' ⟨A, m, c, ds, k1, k2, k3⟩ => ⟨A, m, c, ds, k1, by omega, k3⟩
  have cur := Lib.hid (Below.refl w2.drew.heap.size w2.drew)
  have HW : Hid (∀ u, Below w2.drew.heap.size w2.drew u → u.cell? ⟨w.heap.size, 1, none⟩ = some (.slice A n c)) := fun u hu => (HX.out.below hu).c1
  go_wp2_with fail
  go_region_held3 (fun u => u.cell? ⟨w.heap.size, 1, none⟩ = some (.slice A n c)) (with_reducible exact HW.out _ cur.out)
    (first
      | (go_at_call 39; (with_reducible refine (Ka.out _ cur.out).mono ?_); rintro e ua ⟨Aa, ma, ca, sa, rfl, hma, hla, hba, hva, hBa⟩; (with_reducible (replace cur := Lib.hid (cur.out.trans (hBa.mono cur.out.size)))); have La : Hid (Dig ua Aa ma ca sa ∧ D.Bare sa ∧ D.val sa = V - p) := ⟨hla, hba, hva⟩; clear hla hba hva hBa)
      | (go_at_call 40; (with_reducible refine (Kb.out _ cur.out).mono ?_); rintro e ub ⟨Ab, mb, cb, sb, rfl, hmb, hlb, hbb, hvb, hBb⟩; (with_reducible (replace cur := Lib.hid (cur.out.trans (hBb.mono cur.out.size)))); replace La : Hid (Dig ub Aa ma ca sa ∧ D.Bare sa ∧ D.val sa = V - p) := ⟨La.out.1.below hBb, La.out.2⟩; have Lb : Hid (Dig ub Ab mb cb sb ∧ D.Bare sb ∧ D.val sb = V + p) := ⟨hlb, hbb, hvb⟩; clear hlb hbb hvb hBb))
  all_goals (
    have bc := cur.out
    clear Hp0 HV
    replace HX : Hid (Bd ub w.heap.size 28 false A n c E) := HX.out.below bc
    replace HR : Hid (Bd ub (w.heap.size + 1) 28 false none 0 0 0) := HR.out.below bc
    replace HS := Lib.hid (HS.out.trans (bc.mono HS.out.size))
    clear bc cur Ka Kb HW
    have hmb3 : mb ≤ 300 := dlen_le Lb.out.1 Lb.out.2.1 Lb.out.2.2 (k := bl + 1) HV3.out (by omega)
    have H4 := ratanh_l m Aa ma ca sa Ab mb cb sb ub La.out.1 Lb.out.1 La.out.2.1 Lb.out.2.1 (by omega) hmb3 hm (by rw [Lb.out.2.2]; exact HF.out.2.2.1) (by rw [La.out.2.2, Lb.out.2.2]; exact HF.out.2.1)
    rw [La.out.2.2, Lb.out.2.2, HF.out.2.2.2.2.1] at H4
    replace H4 := Lib.hid H4
    clear La Lb
    go_wp2_with fail
    refine H4.out.mono ?_
    rintro e w3 ⟨A3, m3, c3, d3, rfl, hm3, hl3, hb3, hv3, hB⟩
    replace HX : Hid (Bd w3 w.heap.size 28 false A n c E) := HX.out.below hB
    replace HR : Hid (Bd w3 (w.heap.size + 1) 28 false none 0 0 0) := HR.out.below hB
    replace HS := Lib.hid (HS.out.trans (hB.mono HS.out.size))
    have Hat : Hid (Dig w3 A3 m3 c3 d3 ∧ D.Bare d3 ∧ D.val d3 = Av) := ⟨hl3, hb3, hv3⟩
    clear hl3 hb3 hv3 hB H4
    have H5 := Lib.hid (num_any 2 (by decide) w3)
    go_wp2_with fail
    refine H5.out.mono ?_
    rintro e w4 ⟨A4, m4, c4, d4, rfl, hm4, hl4, hb4, hv4, hB⟩
    replace HX : Hid (Bd w4 w.heap.size 28 false A n c E) := HX.out.below hB
    replace HR : Hid (Bd w4 (w.heap.size + 1) 28 false none 0 0 0) := HR.out.below hB
    replace Hat : Hid (Dig w4 A3 m3 c3 d3 ∧ D.Bare d3 ∧ D.val d3 = Av) := ⟨Hat.out.1.below hB, Hat.out.2⟩
    replace HS := Lib.hid (HS.out.trans (hB.mono HS.out.size))
    have H2n : Hid (Dig w4 A4 m4 c4 d4 ∧ D.Bare d4 ∧ D.val d4 = 2) := ⟨hl4, hb4, hv4⟩
    clear hl4 hb4 hv4 hB H5
    have H6 := rmul_any A3 m3 c3 d3 A4 m4 c4 d4 w4 Hat.out.1 H2n.out.1 (by omega) (by omega)
    rw [Hat.out.2.2, H2n.out.2.2] at H6
    replace H6 := Lib.hid H6
    clear Hat H2n
    go_wp2_with fail
    refine H6.out.mono ?_
    rintro e w5 ⟨A5, m5, c5, d5, rfl, hm5, hl5, hb5, hv5, hB⟩
    replace HX : Hid (Bd w5 w.heap.size 28 false A n c E) := HX.out.below hB
    replace HR : Hid (Bd w5 (w.heap.size + 1) 28 false none 0 0 0) := HR.out.below hB
    replace HS := Lib.hid (HS.out.trans (hB.mono HS.out.size))
    have Hl : Hid (Dig w5 A5 m5 c5 d5 ∧ D.Bare d5 ∧ D.val d5 = Av * 2) := ⟨hl5, hb5, hv5⟩
    clear hl5 hb5 hv5 hB H6
    have HX_0 := HX.out.c0
    have HX_1 := HX.out.c1
    have HX_2 := HX.out.c2
    have H7 := Lib.hid (rtop_l t false A n c ds E w5 (HV0.out.1.below HS.out) HV0.out.2.1 (by omega) hE1 hE2 (by rw [HV0.out.2.2]; exact HF.out.2.2.2.2.2.2))
    go_wp2_with fail
    refine H7.out.mono ?_
    rintro e w6 ⟨rfl, hB⟩
    clear HX_0 HX_1 HX_2
    replace HX : Hid (Bd w6 w.heap.size 28 false A n c E) := HX.out.below hB
    replace HR : Hid (Bd w6 (w.heap.size + 1) 28 false none 0 0 0) := HR.out.below hB
    replace Hl : Hid (Dig w6 A5 m5 c5 d5 ∧ D.Bare d5 ∧ D.val d5 = Av * 2) := ⟨Hl.out.1.below hB, Hl.out.2⟩
    replace HS := Lib.hid (HS.out.trans (hB.mono HS.out.size))
    clear hB H7
    have H8 := Lib.hid (ltwo_l m Tv w6 hm HTv)
    go_wp2_with fail
    refine H8.out.mono ?_
    rintro e w7 ⟨A7, m7, c7, d7, rfl, hm7, hl7, hb7, hv7, hB⟩
    replace HX : Hid (Bd w7 w.heap.size 28 false A n c E) := HX.out.below hB
    replace HR : Hid (Bd w7 (w.heap.size + 1) 28 false none 0 0 0) := HR.out.below hB
    replace Hl : Hid (Dig w7 A5 m5 c5 d5 ∧ D.Bare d5 ∧ D.val d5 = Av * 2) := ⟨Hl.out.1.below hB, Hl.out.2⟩
    replace HS := Lib.hid (HS.out.trans (hB.mono HS.out.size))
    have Htw : Hid (Dig w7 A7 m7 c7 d7 ∧ D.Bare d7 ∧ D.val d7 = Tv * 2) := ⟨hl7, hb7, hv7⟩
    clear hl7 hb7 hv7 hB H8
    have H9 := Lib.hid (num_any k (by omega) w7)
    go_wp2_with fail
    refine H9.out.mono ?_
    rintro e w8 ⟨A8, m8, c8, d8, rfl, hm8, hl8, hb8, hv8, hB⟩
    replace HX : Hid (Bd w8 w.heap.size 28 false A n c E) := HX.out.below hB
    replace HR : Hid (Bd w8 (w.heap.size + 1) 28 false none 0 0 0) := HR.out.below hB
    replace Hl : Hid (Dig w8 A5 m5 c5 d5 ∧ D.Bare d5 ∧ D.val d5 = Av * 2) := ⟨Hl.out.1.below hB, Hl.out.2⟩
    replace Htw : Hid (Dig w8 A7 m7 c7 d7 ∧ D.Bare d7 ∧ D.val d7 = Tv * 2) := ⟨Htw.out.1.below hB, Htw.out.2⟩
    replace HS := Lib.hid (HS.out.trans (hB.mono HS.out.size))
    have Hkn : Hid (Dig w8 A8 m8 c8 d8 ∧ D.Bare d8 ∧ D.val d8 = k) := ⟨hl8, hb8, hv8⟩
    clear hl8 hb8 hv8 hB H9
    have H10 := rmul_any A7 m7 c7 d7 A8 m8 c8 d8 w8 Htw.out.1 Hkn.out.1 (by omega) (by omega)
    rw [Htw.out.2.2, Hkn.out.2.2] at H10
    replace H10 := Lib.hid H10
    clear Htw Hkn
    go_wp2_with fail
    refine H10.out.mono ?_
    rintro e w9 ⟨A9, m9, c9, d9, rfl, hm9, hl9, hb9, hv9, hB⟩
    replace HX : Hid (Bd w9 w.heap.size 28 false A n c E) := HX.out.below hB
    replace HR : Hid (Bd w9 (w.heap.size + 1) 28 false none 0 0 0) := HR.out.below hB
    replace Hl : Hid (Dig w9 A5 m5 c5 d5 ∧ D.Bare d5 ∧ D.val d5 = Av * 2) := ⟨Hl.out.1.below hB, Hl.out.2⟩
    replace HS := Lib.hid (HS.out.trans (hB.mono HS.out.size))
    have Hm : Hid (Dig w9 A9 m9 c9 d9 ∧ D.Bare d9 ∧ D.val d9 = Tv * 2 * k) := ⟨hl9, hb9, hv9⟩
    clear hl9 hb9 hv9 hB H10
    have ba := below1 w9 (.cells #[.bool true, .slice A9 m9 c9, .int .i64 mm] 28)
    replace HX : Hid (Bd (w9.alloc (.cells #[.bool true, .slice A9 m9 c9, .int .i64 mm] 28)) w.heap.size 28 false A n c E) := HX.out.below ba
    replace HR : Hid (Bd (w9.alloc (.cells #[.bool true, .slice A9 m9 c9, .int .i64 mm] 28)) (w.heap.size + 1) 28 false none 0 0 0) := HR.out.below ba
    replace Hl : Hid (Dig (w9.alloc (.cells #[.bool true, .slice A9 m9 c9, .int .i64 mm] 28)) A5 m5 c5 d5 ∧ D.Bare d5 ∧ D.val d5 = Av * 2) := ⟨Hl.out.1.below ba, Hl.out.2⟩
    replace Hm : Hid (Dig (w9.alloc (.cells #[.bool true, .slice A9 m9 c9, .int .i64 mm] 28)) A9 m9 c9 d9 ∧ D.Bare d9 ∧ D.val d9 = Tv * 2 * k) := ⟨Hm.out.1.below ba, Hm.out.2⟩
    replace HS := Lib.hid (HS.out.trans (ba.mono HS.out.size))
    clear ba
    have HTb : Hid (Bd (w9.alloc (.cells #[.bool true, .slice A9 m9 c9, .int .i64 mm] 28)) w9.heap.size 28 true A9 m9 c9 mm) := Bd.new w9 28 true A9 m9 c9 mm
    have HTb_0 := HTb.out.c0
    have HTb_1 := HTb.out.c1
    have HTb_2 := HTb.out.c2
    have H11 := Lib.hid (Ho.out A5 m5 c5 d5 A9 m9 c9 d9 (w9.alloc (.cells #[.bool true, .slice A9 m9 c9, .int .i64 mm] 28)) Hl.out.1 Hm.out.1 Hl.out.2.1 Hm.out.2.1 (by omega) (by omega) Hl.out.2.2 Hm.out.2.2)
    go_wp2_with fail
    refine H11.out.mono ?_
    rintro e w10 ⟨Ar, mr, cr, dr, rfl, hmr, hlr, hbr, hvr, hB⟩
    clear HTb_0 HTb_1 HTb_2
    replace HX : Hid (Bd w10 w.heap.size 28 false A n c E) := HX.out.below hB
    replace HR : Hid (Bd w10 (w.heap.size + 1) 28 false none 0 0 0) := HR.out.below hB
    replace Hl : Hid (Dig w10 A5 m5 c5 d5 ∧ D.Bare d5 ∧ D.val d5 = Av * 2) := ⟨Hl.out.1.below hB, Hl.out.2⟩
    replace Hm : Hid (Dig w10 A9 m9 c9 d9 ∧ D.Bare d9 ∧ D.val d9 = Tv * 2 * k) := ⟨Hm.out.1.below hB, Hm.out.2⟩
    replace HTb : Hid (Bd w10 w9.heap.size 28 true A9 m9 c9 mm) := HTb.out.below hB
    replace HS := Lib.hid (HS.out.trans (hB.mono HS.out.size))
    have Hfin := Lib.hid (put_out (w := w) (o := ⟨og, oV, oE⟩) HR.out (Nat.le_succ _) HS.out hmr hlr hbr hvr)
    have HR_0 := HR.out.c0
    have HR_1 := HR.out.c1
    have HR_2 := HR.out.c2
    have HR_f := HR.out.fz
    clear hlr hbr hvr hB H11 HS HF HTv Ho HV0 HV3 hmp HX HR Hl Hm HTb
    go_wp2
    exact bodyPost_ret (v := .agg #[.bool og, .slice Ar mr cr, .int .i64 oE]) (by simp [results, Tryz.results15, go_sem, HR_0, HR_1, HR_2]) rfl Hfin.out)

set_option maxHeartbeats 4000000 in
set_option maxRecDepth 20000 in
theorem llog_pos (V : Nat) (E : Int) (k m Av Tv : Nat) (t : Int) (o : Dy) (A : Option Addr) (n c : Nat) (ds : List Nat) (w : World) (hA : Dig w A n c ds) (ba : D.Bare ds) (hv : D.val ds = V) (hn : n ≤ 290) (hV : V ≠ 0) (hb : blen V ≤ 4000) (hE1 : -4294967296 ≤ E) (hE2 : E ≤ 4294967296) (ht : rtop V E = t) (htk : t = (k : Int)) (hk : k ≤ 1048576) (hm : m ≤ 700)
    (hAv : dA (2 ^ m) (dnX V) (dnY V) (m / 3 + 3) = Av) (hTv : dA (2 ^ m) 1 3 (m / 3 + 3) = Tv) (ho : AddsTo false false (Av * 2) (Tv * 2 * k) (-(m : Int)) (-(m : Int)) o) :
    Calls Tryz.prog 15 #[.agg #[.bool false, .slice A n c, .int .i64 E], .int .i64 (m : Int)] w (NTold w o 100001) := by
  have a1 : Below w.heap.size w ((w.alloc (.cells #[.bool false, .slice A n c, .int .i64 E] 28)).alloc (.cells #[.bool false, .slice none 0 0, .int .i64 0] 28)) := ((Below.refl _ _).alloc (Nat.le_refl _) _).alloc (by simp) _
  have b1 := (Bd.new w 28 false A n c E).alloc (.cells #[.bool false, .slice none 0 0, .int .i64 0] 28)
  have b2 := Bd.new (w.alloc (.cells #[.bool false, .slice A n c, .int .i64 E] 28)) 28 false none 0 0 0
  rw [World.size_alloc] at b2
  have HX := Lib.hid b1
  have HR := Lib.hid b2
  have HS := Lib.hid a1
  have HV : Hid (Dig ((w.alloc (.cells #[.bool false, .slice A n c, .int .i64 E] 28)).alloc (.cells #[.bool false, .slice none 0 0, .int .i64 0] 28)) A n c ds ∧ D.Bare ds ∧ D.val ds = V) := ⟨hA.below a1, ba, hv⟩
  obtain ⟨bl, hbl⟩ : ∃ x, blen V = x := ⟨_, rfl⟩
  obtain ⟨j, hj⟩ : ∃ x, bl - 1 = x := ⟨_, rfl⟩
  have hbp := blen_pos hV
  have ej : (bl : Int) - 1 = (j : Int) := by omega
  have hj9 : j ≤ 4000 := by omega
  obtain ⟨p, hp⟩ : ∃ x, 2 ^ j = x := ⟨_, rfl⟩
  obtain ⟨f1, f2, f3, f4⟩ := dn_facts hV
  have eX : dnX V = V - p := by unfold dnX; rw [hbl, hj, hp]
  have eY : dnY V = V + p := by unfold dnY; rw [hbl, hj, hp]
  rw [hbl, hj, hp] at f1
  rw [eX, eY] at f3 hAv
  rw [eY] at f4
  have HF : Hid (p ≤ V ∧ 3 * (V - p) ≤ V + p ∧ V + p ≠ 0 ∧ 2 ^ j = p ∧ dA (2 ^ m) (V - p) (V + p) (m / 3 + 3) = Av ∧ blen V = bl ∧ rtop V E = t) := ⟨f1, f3, f4, hp, hAv, hbl, ht⟩
  have HV0 : Hid (Dig w A n c ds ∧ D.Bare ds ∧ D.val ds = V) := ⟨hA, ba, hv⟩
  have HTv := Lib.hid hTv
  have Ho := Lib.hid ho
  obtain ⟨mm, hmm⟩ : ∃ x : Int, -(m : Int) = x := ⟨_, rfl⟩
  have wm : IntKind.i64.wrap (-(m : Int)) = mm := by rw [hmm, IntKind.wrap_i64]; omega
  have hmm1 : -700 ≤ mm := by omega
  have hmm2 : mm ≤ 0 := by omega
  rw [hmm] at Ho
  have hm9 : (m : Int) ≤ 700 := by omega
  have d1 : decide ((k : Int) < (0 : Int)) = false := decide_eq_false (by omega)
  obtain rfl : t = (k : Int) := htk
  obtain ⟨og, oV, oE⟩ := o
  clear a1 b1 b2 hA ba hv hbl hj hbp hp f1 f2 f3 f4 eX eY hAv hTv ho ht hb hV
  go_enter Tryz.func15, Tryz.ntmps15
  have HX_0 := HX.out.c0
  have HX_1 := HX.out.c1
  have HX_2 := HX.out.c2
  have H1 := Lib.hid (lrbits bl A n c ds ((w.alloc (.cells #[.bool false, .slice A n c, .int .i64 E] 28)).alloc (.cells #[.bool false, .slice none 0 0, .int .i64 0] 28)) HV.out.1 HV.out.2.1 (by omega) (by rw [HV.out.2.2]; exact HF.out.2.2.2.2.2.1))
  go_wp2_with fail
  refine H1.out.mono ?_
  rintro e w' ⟨rfl, rfl⟩
  clear H1
  have H2 := Lib.hid (num_any 1 (by decide) ((w.alloc (.cells #[.bool false, .slice A n c, .int .i64 E] 28)).alloc (.cells #[.bool false, .slice none 0 0, .int .i64 0] 28)))
  go_wp2_with fail
  refine H2.out.mono ?_
  rintro e w1 ⟨A1, m1, c1, d1, rfl, hm1, hl1, hb1, hv1, hB⟩
  clear HX_0 HX_1 HX_2
  replace HX : Hid (Bd w1 w.heap.size 28 false A n c E) := HX.out.below hB
  replace HR : Hid (Bd w1 (w.heap.size + 1) 28 false none 0 0 0) := HR.out.below hB
  replace HV : Hid (Dig w1 A n c ds ∧ D.Bare ds ∧ D.val ds = V) := ⟨HV.out.1.below hB, HV.out.2⟩
  replace HS := Lib.hid (HS.out.trans (hB.mono HS.out.size))
  have H1n : Hid (Dig w1 A1 m1 c1 d1 ∧ D.Bare d1 ∧ D.val d1 = 1) := ⟨hl1, hb1, hv1⟩
  clear hl1 hb1 hv1 hB H2
  have H3 := rshl_any A1 m1 c1 d1 j w1 H1n.out.1 H1n.out.2.1 (by omega) (by omega)
  rw [H1n.out.2.2, Nat.one_mul, HF.out.2.2.2.1] at H3
  replace H3 := Lib.hid H3
  clear H1n
  go_wp2_with fail
  refine H3.out.mono ?_
  rintro e w2 ⟨A2, m2, c2, d2, rfl, hm2, hl2, hb2, hv2, hB⟩
  replace HX : Hid (Bd w2 w.heap.size 28 false A n c E) := HX.out.below hB
  replace HR : Hid (Bd w2 (w.heap.size + 1) 28 false none 0 0 0) := HR.out.below hB
  replace HV : Hid (Dig w2 A n c ds ∧ D.Bare ds ∧ D.val ds = V) := ⟨HV.out.1.below hB, HV.out.2⟩
  replace HS := Lib.hid (HS.out.trans (hB.mono HS.out.size))
  have Hp0 : Hid (Dig w2 A2 m2 c2 d2 ∧ D.Bare d2 ∧ D.val d2 = p) := ⟨hl2, hb2, hv2⟩
  clear hl2 hb2 hv2 hB H3
  have hV2 := blen_le_iff.1 (show blen V ≤ bl by rw [HF.out.2.2.2.2.2.1]; exact Nat.le_refl _)
  have hmp : m2 ≤ 300 := dlen_le Hp0.out.1 Hp0.out.2.1 Hp0.out.2.2 (k := bl) (Nat.lt_of_le_of_lt HF.out.1 hV2) (by omega)
  have hV3 : V + p < 2 ^ (bl + 1) := by have h1 := HF.out.1; rw [Nat.pow_succ]; omega
  have HV3 := Lib.hid hV3
  clear hV2 hV3
  have bd := below_drew w2
  replace HX : Hid (Bd w2.drew w.heap.size 28 false A n c E) := HX.out.below bd
  replace HR : Hid (Bd w2.drew (w.heap.size + 1) 28 false none 0 0 0) := HR.out.below bd
  replace HV : Hid (Dig w2.drew A n c ds ∧ D.Bare ds ∧ D.val ds = V) := ⟨HV.out.1.below bd, HV.out.2⟩
  replace Hp0 : Hid (Dig w2.drew A2 m2 c2 d2 ∧ D.Bare d2 ∧ D.val d2 = p) := ⟨Hp0.out.1.below bd, Hp0.out.2⟩
  replace HS := Lib.hid (HS.out.trans (bd.mono HS.out.size))
  clear bd
  have Ka : Hid (∀ u, Below w2.drew.heap.size w2.drew u → Calls Tryz.prog 39 #[.slice A n c, .slice A2 m2 c2] u (DTells u (V - p) n)) := fun u hu => by have h := rsub_any A n c ds A2 m2 c2 d2 u (HV.out.1.below hu) (Hp0.out.1.below hu) Hp0.out.2.1 (by rw [HV.out.2.2, Hp0.out.2.2]; exact HF.out.1) (by omega) (by omega); rw [HV.out.2.2, Hp0.out.2.2] at h; exact h
  have Kb : Hid (∀ u, Below w2.drew.heap.size w2.drew u → Calls Tryz.prog 40 #[.slice A n c, .slice A2 m2 c2] u (DTells u (V + p) 301)) := fun u hu => by have h := radd_any A n c ds A2 m2 c2 d2 u (HV.out.1.below hu) (Hp0.out.1.below hu) HV.out.2.1 Hp0.out.2.1 (by omega) (by omega); rw [HV.out.2.2, Hp0.out.2.2] at h; exact h.mono fun e w' ⟨A, m, c, ds, k1, k2, k3⟩ => ⟨A, m, c, ds, k1, by omega, k3⟩
  have cur := Lib.hid (Below.refl w2.drew.heap.size w2.drew)
  have HW : Hid (∀ u, Below w2.drew.heap.size w2.drew u → u.cell? ⟨w.heap.size, 1, none⟩ = some (.slice A n c)) := fun u hu => (HX.out.below hu).c1
  go_wp2_with fail
  go_region_held3 (fun u => u.cell? ⟨w.heap.size, 1, none⟩ = some (.slice A n c)) (with_reducible exact HW.out _ cur.out)
    (first
      | (go_at_call 39; (with_reducible refine (Ka.out _ cur.out).mono ?_); rintro e ua ⟨Aa, ma, ca, sa, rfl, hma, hla, hba, hva, hBa⟩; (with_reducible (replace cur := Lib.hid (cur.out.trans (hBa.mono cur.out.size)))); have La : Hid (Dig ua Aa ma ca sa ∧ D.Bare sa ∧ D.val sa = V - p) := ⟨hla, hba, hva⟩; clear hla hba hva hBa)
      | (go_at_call 40; (with_reducible refine (Kb.out _ cur.out).mono ?_); rintro e ub ⟨Ab, mb, cb, sb, rfl, hmb, hlb, hbb, hvb, hBb⟩; (with_reducible (replace cur := Lib.hid (cur.out.trans (hBb.mono cur.out.size)))); replace La : Hid (Dig ub Aa ma ca sa ∧ D.Bare sa ∧ D.val sa = V - p) := ⟨La.out.1.below hBb, La.out.2⟩; have Lb : Hid (Dig ub Ab mb cb sb ∧ D.Bare sb ∧ D.val sb = V + p) := ⟨hlb, hbb, hvb⟩; clear hlb hbb hvb hBb))
  all_goals (
    have bc := cur.out
    clear Hp0 HV
    replace HX : Hid (Bd ub w.heap.size 28 false A n c E) := HX.out.below bc
    replace HR : Hid (Bd ub (w.heap.size + 1) 28 false none 0 0 0) := HR.out.below bc
    replace HS := Lib.hid (HS.out.trans (bc.mono HS.out.size))
    clear bc cur Ka Kb HW
    have hmb3 : mb ≤ 300 := dlen_le Lb.out.1 Lb.out.2.1 Lb.out.2.2 (k := bl + 1) HV3.out (by omega)
    have H4 := ratanh_l m Aa ma ca sa Ab mb cb sb ub La.out.1 Lb.out.1 La.out.2.1 Lb.out.2.1 (by omega) hmb3 hm (by rw [Lb.out.2.2]; exact HF.out.2.2.1) (by rw [La.out.2.2, Lb.out.2.2]; exact HF.out.2.1)
    rw [La.out.2.2, Lb.out.2.2, HF.out.2.2.2.2.1] at H4
    replace H4 := Lib.hid H4
    clear La Lb
    go_wp2_with fail
    refine H4.out.mono ?_
    rintro e w3 ⟨A3, m3, c3, d3, rfl, hm3, hl3, hb3, hv3, hB⟩
    replace HX : Hid (Bd w3 w.heap.size 28 false A n c E) := HX.out.below hB
    replace HR : Hid (Bd w3 (w.heap.size + 1) 28 false none 0 0 0) := HR.out.below hB
    replace HS := Lib.hid (HS.out.trans (hB.mono HS.out.size))
    have Hat : Hid (Dig w3 A3 m3 c3 d3 ∧ D.Bare d3 ∧ D.val d3 = Av) := ⟨hl3, hb3, hv3⟩
    clear hl3 hb3 hv3 hB H4
    have H5 := Lib.hid (num_any 2 (by decide) w3)
    go_wp2_with fail
    refine H5.out.mono ?_
    rintro e w4 ⟨A4, m4, c4, d4, rfl, hm4, hl4, hb4, hv4, hB⟩
    replace HX : Hid (Bd w4 w.heap.size 28 false A n c E) := HX.out.below hB
    replace HR : Hid (Bd w4 (w.heap.size + 1) 28 false none 0 0 0) := HR.out.below hB
    replace Hat : Hid (Dig w4 A3 m3 c3 d3 ∧ D.Bare d3 ∧ D.val d3 = Av) := ⟨Hat.out.1.below hB, Hat.out.2⟩
    replace HS := Lib.hid (HS.out.trans (hB.mono HS.out.size))
    have H2n : Hid (Dig w4 A4 m4 c4 d4 ∧ D.Bare d4 ∧ D.val d4 = 2) := ⟨hl4, hb4, hv4⟩
    clear hl4 hb4 hv4 hB H5
    have H6 := rmul_any A3 m3 c3 d3 A4 m4 c4 d4 w4 Hat.out.1 H2n.out.1 (by omega) (by omega)
    rw [Hat.out.2.2, H2n.out.2.2] at H6
    replace H6 := Lib.hid H6
    clear Hat H2n
    go_wp2_with fail
    refine H6.out.mono ?_
    rintro e w5 ⟨A5, m5, c5, d5, rfl, hm5, hl5, hb5, hv5, hB⟩
    replace HX : Hid (Bd w5 w.heap.size 28 false A n c E) := HX.out.below hB
    replace HR : Hid (Bd w5 (w.heap.size + 1) 28 false none 0 0 0) := HR.out.below hB
    replace HS := Lib.hid (HS.out.trans (hB.mono HS.out.size))
    have Hl : Hid (Dig w5 A5 m5 c5 d5 ∧ D.Bare d5 ∧ D.val d5 = Av * 2) := ⟨hl5, hb5, hv5⟩
    clear hl5 hb5 hv5 hB H6
    have HX_0 := HX.out.c0
    have HX_1 := HX.out.c1
    have HX_2 := HX.out.c2
    have H7 := Lib.hid (rtop_l (k : Int) false A n c ds E w5 (HV0.out.1.below HS.out) HV0.out.2.1 (by omega) hE1 hE2 (by rw [HV0.out.2.2]; exact HF.out.2.2.2.2.2.2))
    go_wp2_with fail
    refine H7.out.mono ?_
    rintro e w6 ⟨rfl, hB⟩
    clear HX_0 HX_1 HX_2
    replace HX : Hid (Bd w6 w.heap.size 28 false A n c E) := HX.out.below hB
    replace HR : Hid (Bd w6 (w.heap.size + 1) 28 false none 0 0 0) := HR.out.below hB
    replace Hl : Hid (Dig w6 A5 m5 c5 d5 ∧ D.Bare d5 ∧ D.val d5 = Av * 2) := ⟨Hl.out.1.below hB, Hl.out.2⟩
    replace HS := Lib.hid (HS.out.trans (hB.mono HS.out.size))
    clear hB H7
    have H8 := Lib.hid (ltwo_l m Tv w6 hm HTv)
    go_wp2_with fail
    refine H8.out.mono ?_
    rintro e w7 ⟨A7, m7, c7, d7, rfl, hm7, hl7, hb7, hv7, hB⟩
    replace HX : Hid (Bd w7 w.heap.size 28 false A n c E) := HX.out.below hB
    replace HR : Hid (Bd w7 (w.heap.size + 1) 28 false none 0 0 0) := HR.out.below hB
    replace Hl : Hid (Dig w7 A5 m5 c5 d5 ∧ D.Bare d5 ∧ D.val d5 = Av * 2) := ⟨Hl.out.1.below hB, Hl.out.2⟩
    replace HS := Lib.hid (HS.out.trans (hB.mono HS.out.size))
    have Htw : Hid (Dig w7 A7 m7 c7 d7 ∧ D.Bare d7 ∧ D.val d7 = Tv * 2) := ⟨hl7, hb7, hv7⟩
    clear hl7 hb7 hv7 hB H8
    have H9 := Lib.hid (num_any k (by omega) w7)
    go_wp2_with fail
    refine H9.out.mono ?_
    rintro e w8 ⟨A8, m8, c8, d8, rfl, hm8, hl8, hb8, hv8, hB⟩
    replace HX : Hid (Bd w8 w.heap.size 28 false A n c E) := HX.out.below hB
    replace HR : Hid (Bd w8 (w.heap.size + 1) 28 false none 0 0 0) := HR.out.below hB
    replace Hl : Hid (Dig w8 A5 m5 c5 d5 ∧ D.Bare d5 ∧ D.val d5 = Av * 2) := ⟨Hl.out.1.below hB, Hl.out.2⟩
    replace Htw : Hid (Dig w8 A7 m7 c7 d7 ∧ D.Bare d7 ∧ D.val d7 = Tv * 2) := ⟨Htw.out.1.below hB, Htw.out.2⟩
    replace HS := Lib.hid (HS.out.trans (hB.mono HS.out.size))
    have Hkn : Hid (Dig w8 A8 m8 c8 d8 ∧ D.Bare d8 ∧ D.val d8 = k) := ⟨hl8, hb8, hv8⟩
    clear hl8 hb8 hv8 hB H9
    have H10 := rmul_any A7 m7 c7 d7 A8 m8 c8 d8 w8 Htw.out.1 Hkn.out.1 (by omega) (by omega)
    rw [Htw.out.2.2, Hkn.out.2.2] at H10
    replace H10 := Lib.hid H10
    clear Htw Hkn
    go_wp2_with fail
    refine H10.out.mono ?_
    rintro e w9 ⟨A9, m9, c9, d9, rfl, hm9, hl9, hb9, hv9, hB⟩
    replace HX : Hid (Bd w9 w.heap.size 28 false A n c E) := HX.out.below hB
    replace HR : Hid (Bd w9 (w.heap.size + 1) 28 false none 0 0 0) := HR.out.below hB
    replace Hl : Hid (Dig w9 A5 m5 c5 d5 ∧ D.Bare d5 ∧ D.val d5 = Av * 2) := ⟨Hl.out.1.below hB, Hl.out.2⟩
    replace HS := Lib.hid (HS.out.trans (hB.mono HS.out.size))
    have Hm : Hid (Dig w9 A9 m9 c9 d9 ∧ D.Bare d9 ∧ D.val d9 = Tv * 2 * k) := ⟨hl9, hb9, hv9⟩
    clear hl9 hb9 hv9 hB H10
    have ba := below1 w9 (.cells #[.bool false, .slice A9 m9 c9, .int .i64 mm] 28)
    replace HX : Hid (Bd (w9.alloc (.cells #[.bool false, .slice A9 m9 c9, .int .i64 mm] 28)) w.heap.size 28 false A n c E) := HX.out.below ba
    replace HR : Hid (Bd (w9.alloc (.cells #[.bool false, .slice A9 m9 c9, .int .i64 mm] 28)) (w.heap.size + 1) 28 false none 0 0 0) := HR.out.below ba
    replace Hl : Hid (Dig (w9.alloc (.cells #[.bool false, .slice A9 m9 c9, .int .i64 mm] 28)) A5 m5 c5 d5 ∧ D.Bare d5 ∧ D.val d5 = Av * 2) := ⟨Hl.out.1.below ba, Hl.out.2⟩
    replace Hm : Hid (Dig (w9.alloc (.cells #[.bool false, .slice A9 m9 c9, .int .i64 mm] 28)) A9 m9 c9 d9 ∧ D.Bare d9 ∧ D.val d9 = Tv * 2 * k) := ⟨Hm.out.1.below ba, Hm.out.2⟩
    replace HS := Lib.hid (HS.out.trans (ba.mono HS.out.size))
    clear ba
    have HTb : Hid (Bd (w9.alloc (.cells #[.bool false, .slice A9 m9 c9, .int .i64 mm] 28)) w9.heap.size 28 false A9 m9 c9 mm) := Bd.new w9 28 false A9 m9 c9 mm
    have HTb_0 := HTb.out.c0
    have HTb_1 := HTb.out.c1
    have HTb_2 := HTb.out.c2
    have H11 := Lib.hid (Ho.out A5 m5 c5 d5 A9 m9 c9 d9 (w9.alloc (.cells #[.bool false, .slice A9 m9 c9, .int .i64 mm] 28)) Hl.out.1 Hm.out.1 Hl.out.2.1 Hm.out.2.1 (by omega) (by omega) Hl.out.2.2 Hm.out.2.2)
    go_wp2_with fail
    refine H11.out.mono ?_
    rintro e w10 ⟨Ar, mr, cr, dr, rfl, hmr, hlr, hbr, hvr, hB⟩
    clear HTb_0 HTb_1 HTb_2
    replace HX : Hid (Bd w10 w.heap.size 28 false A n c E) := HX.out.below hB
    replace HR : Hid (Bd w10 (w.heap.size + 1) 28 false none 0 0 0) := HR.out.below hB
    replace Hl : Hid (Dig w10 A5 m5 c5 d5 ∧ D.Bare d5 ∧ D.val d5 = Av * 2) := ⟨Hl.out.1.below hB, Hl.out.2⟩
    replace Hm : Hid (Dig w10 A9 m9 c9 d9 ∧ D.Bare d9 ∧ D.val d9 = Tv * 2 * k) := ⟨Hm.out.1.below hB, Hm.out.2⟩
    replace HTb : Hid (Bd w10 w9.heap.size 28 false A9 m9 c9 mm) := HTb.out.below hB
    replace HS := Lib.hid (HS.out.trans (hB.mono HS.out.size))
    have Hfin := Lib.hid (put_out (w := w) (o := ⟨og, oV, oE⟩) HR.out (Nat.le_succ _) HS.out hmr hlr hbr hvr)
    have HR_0 := HR.out.c0
    have HR_1 := HR.out.c1
    have HR_2 := HR.out.c2
    have HR_f := HR.out.fz
    clear hlr hbr hvr hB H11 HS HF HTv Ho HV0 HV3 hmp HX HR Hl Hm HTb
    go_wp2
    exact bodyPost_ret (v := .agg #[.bool og, .slice Ar mr cr, .int .i64 oE]) (by simp [results, Tryz.results15, go_sem, HR_0, HR_1, HR_2]) rfl Hfin.out)

end Go.Proofs.YtpbggonfdaealaaGreatDoor
