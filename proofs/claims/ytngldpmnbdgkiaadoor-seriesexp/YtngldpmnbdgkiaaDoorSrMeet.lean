/- The walks of series.isScale, isThird, an edge's atanh and exp; series.Atanh, Ln2 and Exp: they meet the contracts that the laws ask. -/
import Derived.Test.YtngldpmnbdgkiaaDoorSrOdds
namespace Go.Proofs.YtngldpmnbdgkiaaDoor
open Go.RowKit

set_option maxHeartbeats 1000000 in
theorem sscale_l (s : Int) (v : Bool) (w : World) (hv : Hid (decide (8 ≤ s ∧ s ≤ 9000) = v)) :
    Calls Tryd.prog 31 #[.int .i64 s] w fun e w' => e = .returned (.bool v) ∧ w = w' := by
  by_cases h1 : 8 ≤ s
  · have d1 : decide ((8 : Int) ≤ s) = true := decide_eq_true h1
    have d2 : decide (s ≤ (9000 : Int)) = v := by
      rw [← hv.out]
      exact decide_eq_decide.2 ⟨fun h => ⟨h1, h⟩, fun h => h.2⟩
    clear hv h1
    go_enter Tryd.func31, Tryd.ntmps31
    go_wp2
    go_ret
    exact ⟨rfl, rfl⟩
  · have d1 : decide ((8 : Int) ≤ s) = false := decide_eq_false h1
    obtain rfl : v = false := by
      rw [← hv.out]
      exact decide_eq_false fun h => h1 h.1
    clear hv h1
    go_enter Tryd.func31, Tryd.ntmps31
    go_wp2
    go_ret
    exact ⟨rfl, rfl⟩

/-- A fraction that atanh tells of. -/
def Third (X Y : Nat) : Prop := blen X ≤ 4096 ∧ blen Y ≤ 4096 ∧ Y ≠ 0 ∧ 3 * X ≤ Y
instance (X Y : Nat) : Decidable (Third X Y) := by unfold Third; infer_instance
set_option maxHeartbeats 2000000 in
theorem sthird_l (v : Bool) (A : Option Addr) (n c : Nat) (xs : List Nat) (B : Option Addr) (m d : Nat) (ys : List Nat) (w : World) (hA : Lim w A n c xs) (hB : Lim w B m d ys) (hn : n ≤ 70) (hm : m ≤ 70) (hv : Hid (decide (Third (val xs) (val ys)) = v)) :
    Calls Tryd.prog 32 #[.slice A n c, .slice B m d] w fun e w' => e = .returned (.bool v) ∧ Below w.heap.size w w' := by
  obtain ⟨X, hX⟩ : ∃ X, val xs = X := ⟨_, rfl⟩
  obtain ⟨Y, hY⟩ : ∃ Y, val ys = Y := ⟨_, rfl⟩
  obtain ⟨bx, hbx⟩ : ∃ b, blen X = b := ⟨_, rfl⟩
  obtain ⟨bY, hby⟩ : ∃ b, blen Y = b := ⟨_, rfl⟩
  rw [hX, hY] at hv
  have H1 := Lib.hid (bits_l bx A n c xs w hA (by omega) (by show _ = _; rw [hX]; exact hbx))
  have H2 := Lib.hid (bits_l bY B m d ys w hB (by omega) (by show _ = _; rw [hY]; exact hby))
  have hx9 : bx ≤ 64 * 70 := by
    have := hA.blen_le
    rw [hX, hbx] at this
    omega
  have hy9 : bY ≤ 64 * 70 := by
    have := hB.blen_le
    rw [hY, hby] at this
    omega
  by_cases h1 : 4096 < bx
  · have d1 : decide ((4096 : Int) < (bx : Int)) = true := decide_eq_true (by omega)
    have d2 : decide (4096 < bx) = true := decide_eq_true h1
    obtain rfl : v = false := by
      rw [← hv.out]
      exact decide_eq_false fun h => by have := h.1; omega
    clear hA hB hv hX hY hbx hby h1
    go_enter Tryd.func32, Tryd.ntmps32
    go_wp2_with fail
    refine H1.out.mono ?_
    rintro e w' ⟨rfl, rfl⟩
    clear H1 H2
    go_wp2
    go_ret
    exact ⟨rfl, Below.refl _ _⟩
  have d1 : decide ((4096 : Int) < (bx : Int)) = false := decide_eq_false (by omega)
  have d2 : decide (4096 < bx) = false := decide_eq_false h1
  by_cases h2 : 4096 < bY
  · have d3 : decide ((4096 : Int) < (bY : Int)) = true := decide_eq_true (by omega)
    have d4 : decide (4096 < bY) = true := decide_eq_true h2
    obtain rfl : v = false := by
      rw [← hv.out]
      exact decide_eq_false fun h => by have := h.2.1; omega
    clear hA hB hv hX hY hbx hby h1 h2
    go_enter Tryd.func32, Tryd.ntmps32
    go_wp2_with fail
    refine H1.out.mono ?_
    rintro e w' ⟨rfl, rfl⟩
    go_wp2_with fail
    refine H2.out.mono ?_
    rintro e w' ⟨rfl, rfl⟩
    clear H1 H2
    go_wp2
    go_ret
    exact ⟨rfl, Below.refl _ _⟩
  have d3 : decide ((4096 : Int) < (bY : Int)) = false := decide_eq_false (by omega)
  have d4 : decide (4096 < bY) = false := decide_eq_false h2
  by_cases h3 : bY = 0
  · have d5 : ((bY : Int) == 0) = true := beq_yes (by omega)
    obtain rfl : v = false := by
      rw [← hv.out]
      exact decide_eq_false fun h => h.2.2.1 (blen_zero_iff.1 (by rw [hby]; exact h3))
    clear hA hB hv hX hY hbx hby h1 h2 h3
    go_enter Tryd.func32, Tryd.ntmps32
    go_wp2_with fail
    refine H1.out.mono ?_
    rintro e w' ⟨rfl, rfl⟩
    go_wp2_with fail
    refine H2.out.mono ?_
    rintro e w' ⟨rfl, rfl⟩
    go_wp2_with fail
    refine H2.out.mono ?_
    rintro e w' ⟨rfl, rfl⟩
    clear H1 H2
    go_wp2
    go_ret
    exact ⟨rfl, Below.refl _ _⟩
  have d5 : ((bY : Int) == 0) = false := beq_no (by omega)
  have h4 := times_any A n c xs 3 w hA (by omega) (by decide) (by rw [hX, hbx]; omega)
  rw [hX] at h4
  have H4 := Lib.hid h4
  obtain ⟨cv, hcv⟩ : ∃ cv, cmpZ (X * 3) Y = cv := ⟨_, rfl⟩
  have d6 : decide (cv ≤ (0 : Int)) = v := by
    rw [← hv.out, ← hcv]
    refine decide_eq_decide.2 ⟨fun h => ⟨by omega, by omega, fun h0 => h3 ?_, by have := cmpZ_le h; omega⟩, fun h => le_cmpZ (by have := h.2.2.2; omega)⟩
    rw [← hby, h0]; rfl
  have H5 : Hid (∀ u A3 m3 c3 zs, Lim u A3 m3 c3 zs → val zs = X * 3 → m3 ≤ 100 → Below w.heap.size w u → Calls Tryd.prog 20 #[.slice A3 m3 c3, .slice B m d] u fun e w' => e = .returned (.int .i64 cv) ∧ Below u.heap.size u w') := fun u A3 m3 c3 zs g1 g2 g3 g4 =>
    cmp_b cv A3 m3 c3 zs B m d ys u g1 (hB.below g4) (by omega) (by omega) (by show _ = _; rw [g2, hY]; exact hcv)
  clear hA hB hv hX hY hbx hby h1 h2 h3 h4 hcv
  go_enter Tryd.func32, Tryd.ntmps32
  go_wp2_with fail
  refine H1.out.mono ?_
  rintro e w' ⟨rfl, rfl⟩
  go_wp2_with fail
  refine H2.out.mono ?_
  rintro e w' ⟨rfl, rfl⟩
  go_wp2_with fail
  refine H2.out.mono ?_
  rintro e w' ⟨rfl, rfl⟩
  go_wp2_with fail
  refine H4.out.mono ?_
  rintro e w1 ⟨A3, m3, c3, zs, rfl, hm3, hl3, hb3, hv3, hB3⟩
  have H6 := Lib.hid (H5.out w1 A3 m3 c3 zs hl3 hv3 (by omega) hB3)
  have HS := Lib.hid hB3
  clear hl3 hb3 hv3 hB3 H1 H2 H4 H5
  go_wp2_with fail
  refine H6.out.mono ?_
  rintro e w2 ⟨rfl, hB4⟩
  have Hfin := Lib.hid (HS.out.trans (hB4.mono HS.out.size))
  clear hB4 HS H6
  go_wp2
  go_ret
  exact ⟨rfl, Hfin.out⟩

theorem tol_short (g : Bool) {S L b : Nat} (h : blen S ≤ b) (hL : L ≤ 1) : blen (tolN g S L) ≤ b + 2 := by
  refine blen_le_iff.2 ?_
  have h1 := blen_le_iff.1 h
  have h2 : tolN g S L ≤ (S + (if g then L + L else 0)) / 2 ^ 64 + 1 := ov_le g _ _
  have h3 := Nat.div_le_self (S + (if g then L + L else 0)) (2 ^ 64)
  have h4 : (if g then L + L else 0) ≤ 2 := by split <;> omega
  have h5 : 2 ^ (b + 2) = 2 ^ b * 4 := Nat.pow_add _ _ _
  have h6 := Nat.two_pow_pos b
  omega

/-- One end is told. -/
def EndTold (w : World) (Q : Nat → Prop) (e : Ending) (w' : World) : Prop := ∃ A m c zs, e = .returned (.slice A m c) ∧ m ≤ 250 ∧ Lim w' A m c zs ∧ Below w.heap.size w w' ∧ Q (val zs)

set_option maxHeartbeats 2000000 in
theorem satanh_l (g : Bool) (A : Option Addr) (n c : Nat) (xs : List Nat) (B : Option Addr) (m d : Nat) (ys : List Nat) (s : Nat) (w : World) (hA : Lim w A n c xs) (hB : Lim w B m d ys) (hn : n ≤ 70) (hm : m ≤ 70) (hT : Tab w) (h : Third (val xs) (val ys)) (hs : s ≤ 9001) :
    Calls Tryd.prog 33 #[.bool g, .slice A n c, .slice B m d, .int .i64 (s : Int)] w (EndTold w (AtV g (val xs) (val ys) s)) := by
  obtain ⟨k, hk⟩ : ∃ k, s + 64 = k := ⟨_, rfl⟩
  have ek : (s : Int) + 64 = (k : Int) := by omega
  have H1 := Lib.hid (sodds_l g A n c xs B m d ys k w hA hB hn hm hT h.2.2.1 h.2.2.2 h.1 h.2.1 (by omega))
  have HT := Lib.hid hT
  have HK := Lib.hid hk
  have hs9 : k ≤ 9100 := by omega
  clear hA hB hT h hk
  go_enter Tryd.func33, Tryd.ntmps33
  go_wp2_with fail
  refine H1.out.mono ?_
  rintro e w1 ⟨q, A1, m1, c1, zs, A2, m2, c2, us, rfl, hm1, hm2, hl1, hl2, hB1, hq, hp1, hp2, hv1, hv2⟩
  have h2 := stold_l g _ _ A1 m1 c1 zs A2 m2 c2 us w1 hl1 hl2 (by omega) (by omega) (HT.out.below hB1) hv1 hv2
  have H2 := Lib.hid h2
  have HS := Lib.hid hB1
  have HQ : Hid (pk g (val xs * val xs) (val ys * val ys) (ov g (val xs * 2 ^ k) (val ys)) q ≤ 1 ∧ (∀ j, j < q → 1 < pk g (val xs * val xs) (val ys * val ys) (ov g (val xs * 2 ^ k) (val ys)) j)) := ⟨hp1, hp2⟩
  have HZ : Hid (blen (sn (tk1 g (val xs * val xs) (val ys * val ys) (ov g (val xs * 2 ^ k) (val ys))) q) ≤ 64 * 200) := by
    show _ ≤ _
    rw [← hv1]
    have := hl1.blen_le
    omega
  clear h2 hl1 hl2 hB1 hp1 hp2 hv1 hv2 H1 HT
  go_wp2_with fail
  refine H2.out.mono ?_
  rintro e w2 ⟨A3, m3, c3, ts, rfl, hm3, hl3, hb3, hv3, hB3⟩
  have hm9 : m3 ≤ 250 := bare_le hl3 hb3 (by
    rw [hv3]
    have := tol_short g HZ.out HQ.out.1
    omega)
  have Hfin : Hid (EndTold w (AtV g (val xs) (val ys) s) (.returned (.slice A3 m3 c3)) w2) := by
    refine ⟨A3, m3, c3, ts, rfl, hm9, hl3, HS.out.trans (hB3.mono HS.out.size), q, hq, ?_⟩
    rw [HK.out]
    exact ⟨HQ.out.1, HQ.out.2, hv3⟩
  clear hl3 hb3 hv3 hB3 H2 HS HQ HZ HK
  go_wp2
  go_ret
  exact Hfin.out

set_option maxHeartbeats 2000000 in
theorem sexp_l (g : Bool) (A : Option Addr) (n c : Nat) (xs : List Nat) (s : Nat) (w : World) (hA : Lim w A n c xs) (hn : n ≤ 150) (hT : Tab w) (ha : val xs ≤ 2 ^ s) (hs : s ≤ 9000) :
    Calls Tryd.prog 40 #[.bool g, .slice A n c, .int .i64 (s : Int)] w (EndTold w (ExV g (val xs) s)) := by
  obtain ⟨k, hk⟩ : ∃ k, s + 64 = k := ⟨_, rfl⟩
  have ek1 : (s : Int) + 64 = (k : Int) := by omega
  obtain ⟨X, hX⟩ : ∃ X, val xs = X := ⟨_, rfl⟩
  have h1 := bare_any A n c xs w hA (by omega)
  rw [hX] at h1 ha ⊢
  have H1 := Lib.hid h1
  have HT := Lib.hid hT
  have HK : Hid (s + 64 = k ∧ X ≤ 2 ^ s) := ⟨hk, ha⟩
  have hs9 : k ≤ 9100 := by omega
  clear hA hT h1 hk ha hX
  go_enter Tryd.func40, Tryd.ntmps40
  go_wp2_with fail
  refine H1.out.mono ?_
  rintro e w0 ⟨A0, m0, c0, fs, rfl, hm0, hl0, hb0, hv0, hB0⟩
  have H9 := Lib.hid (spowers_l g X s k A0 m0 c0 fs w0 hl0 (by omega) (HT.out.below hB0) hv0 HK.out.2 hs HK.out.1)
  have HS := Lib.hid hB0
  replace HT := Lib.hid (HT.out.below hB0)
  clear hl0 hb0 hv0 hB0 H1
  go_wp2_with fail
  refine H9.out.mono ?_
  rintro e w1 ⟨q, A1, m1, c1, zs, A2, m2, c2, us, rfl, hm1, hm2, hl1, hl2, hB1, hq, hp1, hp2, hv1, hv2⟩
  have h2 := stold_l g _ _ A1 m1 c1 zs A2 m2 c2 us w1 hl1 hl2 (by omega) (by omega) (HT.out.below hB1) hv1 hv2
  have H2 := Lib.hid h2
  replace HS := Lib.hid (HS.out.trans (hB1.mono HS.out.size))
  have hq1 : 1 ≤ q := Nat.pos_of_ne_zero fun h0 => by
    rw [h0] at hp1
    have h5 : 2 ^ s * 2 ^ 64 ≤ 1 := hp1
    have h6 := Nat.two_pow_pos s
    omega
  have HQ : Hid (ek g X (2 ^ s) (2 ^ s * 2 ^ 64) q ≤ 1 ∧ (∀ j, j < q → 1 < ek g X (2 ^ s) (2 ^ s * 2 ^ 64) j)) := ⟨hp1, hp2⟩
  have HZ : Hid (blen (sn (ek g X (2 ^ s) (2 ^ s * 2 ^ 64)) q) ≤ 64 * 200) := by
    show _ ≤ _
    rw [← hv1]
    have := hl1.blen_le
    omega
  clear h2 hl1 hl2 hB1 hp1 hp2 hv1 hv2 H9 HT HK
  go_wp2_with fail
  refine H2.out.mono ?_
  rintro e w2 ⟨A3, m3, c3, ts, rfl, hm3, hl3, hb3, hv3, hB3⟩
  have hm9 : m3 ≤ 250 := bare_le hl3 hb3 (by
    rw [hv3]
    have := tol_short g HZ.out HQ.out.1
    omega)
  have Hfin : Hid (EndTold w (ExV g X s) (.returned (.slice A3 m3 c3)) w2) :=
    ⟨A3, m3, c3, ts, rfl, hm9, hl3, HS.out.trans (hB3.mono HS.out.size), q, hq1, hq, HQ.out.1, HQ.out.2, hv3⟩
  clear hl3 hb3 hv3 hB3 H2 HS HQ HZ
  go_wp2
  go_ret
  exact Hfin.out

/-- What is refused. -/
theorem told_no {w w' : World} {Q : Nat → Nat → Nat → Nat → Int → Prop} (hb : Below w.heap.size w w') (hq : Q 0 0 0 0 1) : TwoTold w Q (.returned (.tuple #[.slice none 0 0, .slice none 0 0, .int .i64 1])) w' :=
  ⟨none, 0, 0, [], none, 0, 0, [], 1, rfl, by decide, by decide, Lim.nil _ _ _, Lim.nil _ _ _, hb, hq⟩

set_option maxHeartbeats 2000000 in
theorem atanh_meets : AtanhMeets := by
  intro A n c xs B m d ys s w hA hB hn hm hT hs1 hs2
  obtain ⟨v, hv⟩ : ∃ v, decide (8 ≤ s ∧ s ≤ 9000) = v := ⟨_, rfl⟩
  have H1 := Lib.hid (sscale_l s v w hv)
  cases v with
  | false =>
    have Hfin : Hid (¬ AtOk (val xs) (val ys) s) := fun h => of_decide_eq_false hv h.1
    clear hA hB hT hs1 hs2 hv
    go_enter Tryd.func8, Tryd.ntmps8
    go_wp2_with fail
    refine H1.out.mono ?_
    rintro e w' ⟨rfl, rfl⟩
    clear H1
    go_wp2
    go_ret3
    exact told_no (Below.refl _ _) (Or.inr ⟨Hfin.out, rfl, rfl, rfl⟩)
  | true =>
    have hsc := of_decide_eq_true hv
    obtain ⟨v2, hv2⟩ : ∃ v, decide (Third (val xs) (val ys)) = v := ⟨_, rfl⟩
    have H2 := Lib.hid (sthird_l v2 A n c xs B m d ys w hA hB hn hm hv2)
    cases v2 with
    | false =>
      have Hfin : Hid (¬ AtOk (val xs) (val ys) s) := fun h => of_decide_eq_false hv2 h.2
      clear hA hB hT hs1 hs2 hv hv2 hsc
      go_enter Tryd.func8, Tryd.ntmps8
      go_wp2_with fail
      refine H1.out.mono ?_
      rintro e w' ⟨rfl, rfl⟩
      go_wp2_with fail
      refine H2.out.mono ?_
      rintro e w1 ⟨rfl, hB1⟩
      have HS := Lib.hid hB1
      clear H1 H2 hB1
      go_wp2
      go_ret3
      exact told_no HS.out (Or.inr ⟨Hfin.out, rfl, rfl, rfl⟩)
    | true =>
      have h3 := of_decide_eq_true hv2
      obtain ⟨k, rfl⟩ := Int.eq_ofNat_of_zero_le (show 0 ≤ s by omega)
      have HE : Hid (∀ g u, Below w.heap.size w u → Calls Tryd.prog 33 #[.bool g, .slice A n c, .slice B m d, .int .i64 (k : Int)] u (EndTold u (AtV g (val xs) (val ys) k))) := fun g u hu =>
        satanh_l g A n c xs B m d ys k u (hA.below hu) (hB.below hu) hn hm (hT.below hu) h3 (by omega)
      have HQ : Hid (AtOk (val xs) (val ys) (k : Int) ∧ ∀ lo hi, AtV false (val xs) (val ys) k lo → AtV true (val xs) (val ys) k hi → AtB (val xs) (val ys) k lo hi ∧ lo ≤ hi ∧ hi ≤ lo + 2) :=
        ⟨⟨hsc, h3⟩, fun lo hi g1 g2 => at_both h3.2.2.1 h3.2.2.2 g1 g2⟩
      clear hA hB hT hs1 hs2 hv hv2 hsc h3
      go_enter Tryd.func8, Tryd.ntmps8
      go_wp2_with fail
      refine H1.out.mono ?_
      rintro e w' ⟨rfl, rfl⟩
      go_wp2_with fail
      refine H2.out.mono ?_
      rintro e w1 ⟨rfl, hB1⟩
      have HS := Lib.hid hB1
      have H3 := Lib.hid (HE.out false w1 hB1)
      clear H1 H2 hB1
      go_wp2_with fail
      refine H3.out.mono ?_
      rintro e w2 ⟨A1, m1, c1, zs, rfl, hm1, hl1, hB2, hq1⟩
      replace HS := Lib.hid (HS.out.trans (hB2.mono HS.out.size))
      have H4 := Lib.hid (HE.out true w2 HS.out)
      have HL : Hid (Lim w2 A1 m1 c1 zs ∧ AtV false (val xs) (val ys) k (val zs)) := ⟨hl1, hq1⟩
      clear H3 hl1 hB2 hq1 HE
      go_wp2_with fail
      refine H4.out.mono ?_
      rintro e w3 ⟨A2, m2, c2, us, rfl, hm2, hl2, hB3, hq2⟩
      have Hfin : Hid (TwoTold w (fun m1 lo m2 hi r => (AtOk (val xs) (val ys) (k : Int) ∧ r = 0 ∧ AtB (val xs) (val ys) (k : Int).toNat lo hi ∧ lo ≤ hi ∧ hi - lo ≤ (k : Int).toNat + 64) ∨ (¬ AtOk (val xs) (val ys) (k : Int) ∧ r = 1 ∧ m1 = 0 ∧ m2 = 0)) (.returned (.tuple #[.slice A1 m1 c1, .slice A2 m2 c2, .int .i64 0])) w3) := by
        obtain ⟨g1, g2, g3⟩ := HQ.out.2 _ _ HL.out.2 hq2
        exact ⟨A1, m1, c1, zs, A2, m2, c2, us, 0, rfl, hm1, hm2, HL.out.1.below hB3, hl2, HS.out.trans (hB3.mono HS.out.size), Or.inl ⟨HQ.out.1, rfl, g1, g2, by omega⟩⟩
      clear H4 HL HS HQ hl2 hB3 hq2
      go_wp2
      go_ret3
      exact Hfin.out

set_option maxHeartbeats 2000000 in
theorem ln2_meets : Ln2Meets := by
  intro s w hT hs1 hs2
  obtain ⟨v, hv⟩ : ∃ v, decide (8 ≤ s ∧ s ≤ 9000) = v := ⟨_, rfl⟩
  have H1 := Lib.hid (sscale_l s v w hv)
  cases v with
  | false =>
    have Hfin : Hid (¬ (8 ≤ s ∧ s ≤ 9000)) := of_decide_eq_false hv
    clear hT hs1 hs2 hv
    go_enter Tryd.func24, Tryd.ntmps24
    go_wp2_with fail
    refine H1.out.mono ?_
    rintro e w' ⟨rfl, rfl⟩
    clear H1
    go_wp2
    go_ret3
    exact told_no (Below.refl _ _) (Or.inr ⟨Hfin.out, rfl, rfl, rfl⟩)
  | true =>
    have hsc := of_decide_eq_true hv
    obtain ⟨k, rfl⟩ := Int.eq_ofNat_of_zero_le (show 0 ≤ s by omega)
    obtain ⟨k1, hk1⟩ : ∃ k1, k + 1 = k1 := ⟨_, rfl⟩
    have ek1 : (k : Int) + 1 = (k1 : Int) := by omega
    have hk9 : k1 ≤ 9001 := by omega
    have HE : Hid (∀ g u A1 m1 c1 zs A2 m2 c2 us, Tab u → Lim u A1 m1 c1 zs → Lim u A2 m2 c2 us → val zs = 1 → val us = 3 → m1 ≤ 1 → m2 ≤ 1 → Calls Tryd.prog 33 #[.bool g, .slice A1 m1 c1, .slice A2 m2 c2, .int .i64 (k1 : Int)] u (EndTold u (AtV g 1 3 k1))) := fun g u A1 m1 c1 zs A2 m2 c2 us g1 g2 g3 g4 g5 g6 g7 => by
      have h := satanh_l g A1 m1 c1 zs A2 m2 c2 us k1 u g2 g3 (by omega) (by omega) g1 (by rw [g4, g5]; exact ⟨by decide, by decide, by decide, by decide⟩) hk9
      rw [g4, g5] at h
      exact h
    have HQ : Hid ((8 ≤ (k : Int) ∧ (k : Int) ≤ 9000) ∧ ∀ lo hi, AtV false 1 3 k1 lo → AtV true 1 3 k1 hi → Ln2B k lo hi ∧ lo ≤ hi ∧ hi ≤ lo + 2) :=
      ⟨hsc, fun lo hi g1 g2 => by rw [← hk1] at g1 g2; exact ln2_both g1 g2⟩
    have HO1 := Lib.hid (of_any 1 (by decide) w)
    have HT := Lib.hid hT
    clear hT hs1 hs2 hv hsc hk1
    go_enter Tryd.func24, Tryd.ntmps24
    go_wp2_with fail
    refine H1.out.mono ?_
    rintro e w' ⟨rfl, rfl⟩
    go_wp2_with fail
    refine HO1.out.mono ?_
    rintro e w1 ⟨A1, m1, c1, zs, rfl, hm1, hl1, hb1, hv1, hB1⟩
    have HS := Lib.hid hB1
    have HO2 := Lib.hid (of_any 3 (by decide) w1)
    have HA : Hid (Lim w1 A1 m1 c1 zs ∧ val zs = 1) := ⟨hl1, hv1⟩
    clear hl1 hb1 hv1 hB1 HO1 H1
    go_wp2_with fail
    refine HO2.out.mono ?_
    rintro e w2 ⟨A2, m2, c2, us, rfl, hm2, hl2, hb2, hv2, hB2⟩
    replace HS := Lib.hid (HS.out.trans (hB2.mono HS.out.size))
    replace HA : Hid (Lim w2 A1 m1 c1 zs ∧ val zs = 1) := ⟨HA.out.1.below hB2, HA.out.2⟩
    have HB : Hid (Lim w2 A2 m2 c2 us ∧ val us = 3) := ⟨hl2, hv2⟩
    have H3 := Lib.hid (HE.out false w2 A1 m1 c1 zs A2 m2 c2 us (HT.out.below HS.out) HA.out.1 HB.out.1 HA.out.2 HB.out.2 hm1 hm2)
    clear hl2 hb2 hv2 hB2 HO2
    go_wp2_with fail
    refine H3.out.mono ?_
    rintro e w3 ⟨A3, m3, c3, ts, rfl, hm3, hl3, hB3, hq3⟩
    replace HS := Lib.hid (HS.out.trans (hB3.mono HS.out.size))
    have H4 := Lib.hid (HE.out true w3 A1 m1 c1 zs A2 m2 c2 us (HT.out.below HS.out) (HA.out.1.below hB3) (HB.out.1.below hB3) HA.out.2 HB.out.2 hm1 hm2)
    have HL : Hid (Lim w3 A3 m3 c3 ts ∧ AtV false 1 3 k1 (val ts)) := ⟨hl3, hq3⟩
    clear H3 hl3 hB3 hq3 HE HA HB HT
    go_wp2_with fail
    refine H4.out.mono ?_
    rintro e w4 ⟨A4, m4, c4, vs, rfl, hm4, hl4, hB4, hq4⟩
    have Hfin : Hid (TwoTold w (fun m1 lo m2 hi r => ((8 ≤ (k : Int) ∧ (k : Int) ≤ 9000) ∧ r = 0 ∧ Ln2B (k : Int).toNat lo hi ∧ lo ≤ hi ∧ hi - lo ≤ 2 * (k : Int).toNat + 128) ∨ (¬ (8 ≤ (k : Int) ∧ (k : Int) ≤ 9000) ∧ r = 1 ∧ m1 = 0 ∧ m2 = 0)) (.returned (.tuple #[.slice A3 m3 c3, .slice A4 m4 c4, .int .i64 0])) w4) := by
      obtain ⟨g1, g2, g3⟩ := HQ.out.2 _ _ HL.out.2 hq4
      exact ⟨A3, m3, c3, ts, A4, m4, c4, vs, 0, rfl, hm3, hm4, HL.out.1.below hB4, hl4, HS.out.trans (hB4.mono HS.out.size), Or.inl ⟨HQ.out.1, rfl, g1, g2, by omega⟩⟩
    clear H4 HL HS HQ hl4 hB4 hq4
    go_wp2
    go_ret3
    exact Hfin.out

set_option maxHeartbeats 2000000 in
theorem exp_meets : ExpMeets := by
  intro A n c xs B m d ys s w hA hB hn hm hT hs1 hs2
  obtain ⟨v, hv⟩ : ∃ v, decide (8 ≤ s ∧ s ≤ 9000) = v := ⟨_, rfl⟩
  have H1 := Lib.hid (sscale_l s v w hv)
  cases v with
  | false =>
    have Hfin : Hid (¬ ExOk (val xs) (val ys) s) := fun h => of_decide_eq_false hv h.1
    clear hA hB hT hs1 hs2 hv
    go_enter Tryd.func17, Tryd.ntmps17
    go_wp2_with fail
    refine H1.out.mono ?_
    rintro e w' ⟨rfl, rfl⟩
    clear H1
    go_wp2
    go_ret3
    exact told_no (Below.refl _ _) (Or.inr ⟨Hfin.out, rfl, rfl, rfl⟩)
  | true =>
    have hsc := of_decide_eq_true hv
    obtain ⟨k, rfl⟩ := Int.eq_ofNat_of_zero_le (show 0 ≤ s by omega)
    obtain ⟨cv, hcv⟩ : ∃ cv, cmpZ (val xs) (val ys) = cv := ⟨_, rfl⟩
    have H2 := Lib.hid (cmp_b cv A n c xs B m d ys w hA hB (by omega) (by omega) hcv)
    by_cases h1 : 0 < cv
    · have d1 : decide ((0 : Int) < cv) = true := decide_eq_true h1
      have Hfin : Hid (¬ ExOk (val xs) (val ys) (k : Int)) := fun h => by
        have := le_cmpZ h.2.1
        omega
      clear hA hB hT hs1 hs2 hv hsc hcv h1
      go_enter Tryd.func17, Tryd.ntmps17
      go_wp2_with fail
      refine H1.out.mono ?_
      rintro e w' ⟨rfl, rfl⟩
      go_wp2_with fail
      refine H2.out.mono ?_
      rintro e w1 ⟨rfl, hB1⟩
      have HS := Lib.hid hB1
      clear H1 H2 hB1
      go_wp2
      go_ret3
      exact told_no HS.out (Or.inr ⟨Hfin.out, rfl, rfl, rfl⟩)
    have d1 : decide ((0 : Int) < cv) = false := decide_eq_false h1
    have hle : val xs ≤ val ys := cmpZ_le (by omega)
    obtain ⟨cu, hcu⟩ : ∃ cu, cmpZ (val ys) (2 ^ k) = cu := ⟨_, rfl⟩
    have H3 : Hid (∀ u, Calls Tryd.prog 39 #[.int .i64 (k : Int)] u (Tells u (2 ^ k) (k + 2))) := fun u => spower_l k u (by omega)
    have H4 : Hid (∀ u A3 m3 c3 zs, Below w.heap.size w u → Lim u A3 m3 c3 zs → val zs = 2 ^ k → m3 ≤ 10000 → Calls Tryd.prog 20 #[.slice B m d, .slice A3 m3 c3] u fun e w' => e = .returned (.int .i64 cu) ∧ Below u.heap.size u w') := fun u A3 m3 c3 zs g1 g2 g3 g4 =>
      cmp_b cu B m d ys A3 m3 c3 zs u (hB.below g1) g2 (by omega) (by omega) (by show _ = _; rw [g3]; exact hcu)
    by_cases h2 : 0 < cu
    · have d2 : decide ((0 : Int) < cu) = true := decide_eq_true h2
      have Hfin : Hid (¬ ExOk (val xs) (val ys) (k : Int)) := fun h => by
        have h9 : val ys ≤ 2 ^ k := h.2.2
        have := le_cmpZ h9
        omega
      have hk9 : k ≤ 9000 := by omega
      clear hA hB hT hs1 hs2 hv hsc hcv h1 h2 hcu hle
      go_enter Tryd.func17, Tryd.ntmps17
      go_wp2_with fail
      refine H1.out.mono ?_
      rintro e w' ⟨rfl, rfl⟩
      go_wp2_with fail
      refine H2.out.mono ?_
      rintro e w1 ⟨rfl, hB1⟩
      have HS := Lib.hid hB1
      clear H1 H2 hB1
      go_wp2_with fail
      refine (H3.out _).mono ?_
      rintro e w2 ⟨A3, m3, c3, zs, rfl, hm3, hl3, hb3, hv3, hB3⟩
      replace HS := Lib.hid (HS.out.trans (hB3.mono HS.out.size))
      have H5 := Lib.hid (H4.out w2 A3 m3 c3 zs HS.out hl3 hv3 (by omega))
      clear hl3 hb3 hv3 hB3 H3 H4
      go_wp2_with fail
      refine H5.out.mono ?_
      rintro e w3 ⟨rfl, hB4⟩
      replace HS := Lib.hid (HS.out.trans (hB4.mono HS.out.size))
      clear hB4 H5
      go_wp2
      go_ret3
      exact told_no HS.out (Or.inr ⟨Hfin.out, rfl, rfl, rfl⟩)
    have d2 : decide ((0 : Int) < cu) = false := decide_eq_false h2
    have hle2 : val ys ≤ 2 ^ k := cmpZ_le (by omega)
    have HE1 : Hid (∀ u, Below w.heap.size w u → Calls Tryd.prog 40 #[.bool false, .slice A n c, .int .i64 (k : Int)] u (EndTold u (ExV false (val xs) k))) := fun u hu =>
      sexp_l false A n c xs k u (hA.below hu) hn (hT.below hu) (Nat.le_trans hle hle2) (by omega)
    have HE2 : Hid (∀ u, Below w.heap.size w u → Calls Tryd.prog 40 #[.bool true, .slice B m d, .int .i64 (k : Int)] u (EndTold u (ExV true (val ys) k))) := fun u hu =>
      sexp_l true B m d ys k u (hB.below hu) hm (hT.below hu) hle2 (by omega)
    have HQ : Hid (ExOk (val xs) (val ys) (k : Int) ∧ ∀ lo hi, ExV false (val xs) k lo → ExV true (val ys) k hi → ExB (val xs) (val ys) k lo hi ∧ lo ≤ hi ∧ (val xs = val ys → hi ≤ lo + 2)) :=
      ⟨⟨hsc, hle, hle2⟩, fun lo hi g1 g2 => ex_both hle hle2 g1 g2⟩
    have hk9 : k ≤ 9000 := by omega
    clear hA hB hT hs1 hs2 hv hsc hcv h1 h2 hcu hle hle2
    go_enter Tryd.func17, Tryd.ntmps17
    go_wp2_with fail
    refine H1.out.mono ?_
    rintro e w' ⟨rfl, rfl⟩
    go_wp2_with fail
    refine H2.out.mono ?_
    rintro e w1 ⟨rfl, hB1⟩
    have HS := Lib.hid hB1
    clear H1 H2 hB1
    go_wp2_with fail
    refine (H3.out _).mono ?_
    rintro e w2 ⟨A3, m3, c3, zs, rfl, hm3, hl3, hb3, hv3, hB3⟩
    replace HS := Lib.hid (HS.out.trans (hB3.mono HS.out.size))
    have H5 := Lib.hid (H4.out w2 A3 m3 c3 zs HS.out hl3 hv3 (by omega))
    clear hl3 hb3 hv3 hB3 H3 H4
    go_wp2_with fail
    refine H5.out.mono ?_
    rintro e w3 ⟨rfl, hB4⟩
    replace HS := Lib.hid (HS.out.trans (hB4.mono HS.out.size))
    have H6 := Lib.hid (HE1.out w3 HS.out)
    clear hB4 H5 HE1
    go_wp2_with fail
    refine H6.out.mono ?_
    rintro e w4 ⟨A4, m4, c4, ts, rfl, hm4, hl4, hB5, hq4⟩
    replace HS := Lib.hid (HS.out.trans (hB5.mono HS.out.size))
    have H7 := Lib.hid (HE2.out w4 HS.out)
    have HL : Hid (Lim w4 A4 m4 c4 ts ∧ ExV false (val xs) k (val ts)) := ⟨hl4, hq4⟩
    clear H6 hl4 hB5 hq4 HE2
    go_wp2_with fail
    refine H7.out.mono ?_
    rintro e w5 ⟨A5, m5, c5, us, rfl, hm5, hl5, hB6, hq5⟩
    have Hfin : Hid (TwoTold w (fun m1 lo m2 hi r => (ExOk (val xs) (val ys) (k : Int) ∧ r = 0 ∧ ExB (val xs) (val ys) (k : Int).toNat lo hi ∧ lo ≤ hi ∧ (val xs = val ys → hi - lo ≤ 4 * (k : Int).toNat + 64)) ∨ (¬ ExOk (val xs) (val ys) (k : Int) ∧ r = 1 ∧ m1 = 0 ∧ m2 = 0)) (.returned (.tuple #[.slice A4 m4 c4, .slice A5 m5 c5, .int .i64 0])) w5) := by
      obtain ⟨g1, g2, g3⟩ := HQ.out.2 _ _ HL.out.2 hq5
      exact ⟨A4, m4, c4, ts, A5, m5, c5, us, 0, rfl, hm4, hm5, HL.out.1.below hB6, hl5, HS.out.trans (hB6.mono HS.out.size), Or.inl ⟨HQ.out.1, rfl, g1, g2, fun h => by have := g3 h; omega⟩⟩
    clear H7 HL HS HQ hl5 hB6 hq5
    go_wp2
    go_ret3
    exact Hfin.out
end Go.Proofs.YtngldpmnbdgkiaaDoor
