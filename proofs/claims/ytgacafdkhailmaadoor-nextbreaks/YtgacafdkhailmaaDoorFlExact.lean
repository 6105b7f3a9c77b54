/- The walks of float.laid and Exact. -/
import Derived.Test.YtgacafdkhailmaaDoorFlParts
namespace Go.Proofs.YtgacafdkhailmaaDoor
open Go.RowKit

theorem top_zero (g : Bool) (A : Option Addr) (n c : Nat) (xs : List Nat) (e0 : Int) (w : World) (hA : Lim w A n c xs) (hn : n ≤ 4294967296) (h0 : val xs = 0) :
    Calls Tryd.prog 41 #[.agg #[.bool g, .slice A n c, .int .i64 e0]] w fun e w' => e = .returned (.tuple #[.int .i64 0, .bool false]) ∧ Below w.heap.size w w' := by
  have HA := Lib.hid (hA.alloc (.cells #[.bool g, .slice A n c, .int .i64 e0] 28))
  have H1 := Lib.hid (below1 w (.cells #[.bool g, .slice A n c, .int .i64 e0] 28))
  have Hb : Hid (blen (val xs) = 0) := by rw [h0]; rfl
  clear hA h0
  go_enter Tryd.func41, Tryd.ntmps41
  go_wp2_with fail
  refine (bits_l 0 A n c xs _ HA.out (by omega) Hb).mono ?_
  rintro e w' ⟨rfl, rfl⟩
  go_wp2
  go_ret2
  exact ⟨rfl, H1.out⟩

theorem laid_l (X V : Nat) (e0 top : Int) (hV : V ≠ 0) (htop : top = (blen V : Int) - 1 + e0) (h1 : top ≤ 1023) (h2 : -1074 ≤ e0) (h3 : (blen V : Int) - 1 ≤ 52) (w : World) (hX : Hid (layd V e0 top = X)) :
    Calls Tryd.prog 83 #[.int .u64 (V : Int), .int .i64 e0, .int .i64 top] w fun e w' => e = .returned (.int .u64 (X : Int)) ∧ w = w' := by
  obtain ⟨L, M, k, k1, k2, k3, _, k5, k6, k7⟩ := layd_spec hV htop h1 h2 h3
  have HX : Hid ((L : Int) * 4503599627370496 + (M : Int) = (X : Int)) := by
    have hX' := hX.out
    rw [k1] at hX'
    show _ = _
    omega
  have hB := blen_pos hV
  obtain ⟨lo, hlo⟩ : ∃ lo, max (top - 52) (-1074) = lo := ⟨_, rfl⟩
  rw [hlo] at k7
  have e1 : lo - -1074 = (L : Int) := by omega
  have e2 : e0 - lo = (k : Int) := by omega
  have e3 : (V : Int) * 2 ^ k = (M : Int) := by rw [k2]; simp
  have b1 : -2000 ≤ top := by omega
  have b2 : e0 ≤ 2000 := by omega
  have b3 : -1074 ≤ lo := by omega
  have b4 : lo ≤ 2000 := by omega
  have b5 : k < 64 := by
    rcases Nat.lt_or_ge k 53 with h | h
    · omega
    · have h6 : (2 : Nat) ^ 53 ≤ 2 ^ k := Nat.pow_le_pow_right (by decide) h
      have h7 : 1 * 2 ^ k ≤ V * 2 ^ k := Nat.mul_le_mul_right _ (Nat.pos_of_ne_zero hV)
      omega
  clear k1 k2 k6 k7 hX htop h3 hB hV
  go_enter Tryd.func83, Tryd.ntmps83
  go_wp2
  go_ret
  exact ⟨congrArg (fun v => Ending.returned (.int .u64 v)) HX.out, rfl⟩

theorem mk_is {g : Bool} {V : Nat} {e : Int} {d : Dy} (h : mk g V e = some d) : nO g V e = d := by
  rw [mk_nO] at h
  obtain ⟨h1, h2, h3⟩ := toldD_fine h
  by_cases h0 : V = 0
  · subst h0
    rw [nO_zero] at h ⊢
    exact Option.some.inj h
  · have h4 : (nO g V e).V ≠ 0 := by rw [nO_pos _ _ h0]; exact fun h => h0 (odd_part_zero.1 h)
    obtain ⟨h5, h6⟩ := h3 h4
    obtain ⟨a, b, c⟩ := d
    simp only at h2 h5 h6
    rw [h2, h5, h6]
theorem mk_none {g : Bool} {V : Nat} {e : Int} (h : mk g V e = none) : exD (nO g V e) = (0, false) := by
  rw [mk_nO] at h
  unfold toldD at h
  split at h
  · cases h
  · rename_i h0
    split at h
    · rename_i h1
      have hB := blen_pos h0
      rw [exD, if_neg h0, if_pos (by omega)]
    · cases h

set_option maxHeartbeats 1000000 in
theorem exact_l (X : Nat) (ok : Bool) (g : Bool) (A : Option Addr) (n c : Nat) (xs : List Nat) (e0 : Int) (w : World) (hA : Lim w A n c xs) (hn : n ≤ 4294967296) (hT : Tab w) (hv : Hid (exD (nO g (val xs) e0) = (X, ok))) :
    Calls Tryd.prog 65 #[.agg #[.bool g, .slice A n c, .int .i64 e0]] w fun e w' => e = .returned (.tuple #[.int .u64 (X : Int), .bool ok]) ∧ Below w.heap.size w w' := by
  have a3 := below1 w (.cells #[.bool g, .slice A n c, .int .i64 e0] 28)
  have H1 := Lib.hid (dbare_any g A n c xs e0 _ (hA.below a3) hn (hT.below a3))
  have HT := Lib.hid (hT.below a3)
  have Hb := Lib.hid (Bd.new w 28 g A n c e0)
  have HS := Lib.hid a3
  obtain ⟨o, ho⟩ : ∃ o, mk g (val xs) e0 = o := ⟨_, rfl⟩
  rw [ho] at H1
  clear a3 hA hT
  go_enter Tryd.func65, Tryd.ntmps65
  go_wp2_with fail
  refine H1.out.mono ?_
  rintro e w1 ⟨g1, A1, m1, c1, zs, E1, r1, rfl, hm1, hl1, hb1, his, hB1⟩
  have Hk1 := Lib.hid (Hb.out.below hB1)
  have HS1 := Lib.hid (below_put (HS.out.trans (hB1.mono HS.out.size)) (Nat.le_refl _) g1 A1 m1 c1 E1)
  have x0 := Hk1.out.c0
  have x1 := Hk1.out.c1
  have x2 := Hk1.out.c2
  have xf := Hk1.out.fz
  cases o with
  | none =>
    obtain ⟨rfl, rfl, hz, rfl⟩ := his
    have hv' := hv.out
    rw [mk_none ho] at hv'
    obtain ⟨rfl, rfl⟩ := Prod.mk.inj hv'
    clear hv hv' ho H1 HT Hb HS hl1 hb1 hz hB1 Hk1
    go_wp2
    go_ret2
    exact ⟨rfl, HS1.out⟩
  | some d =>
    obtain ⟨rfl, hg, hz, hE⟩ := his
    have hd := mk_is ho
    have hfine := (mk_fine ho).1
    have hv' := hv.out
    rw [hd] at hv'
    have Hl1 := Lib.hid (Hk1.out.lim hl1 g1 A1 m1 c1 E1)
    have Hk2 := Lib.hid (Hk1.out.put g1 A1 m1 c1 E1)
    have y0 := Hk2.out.c0
    have y1 := Hk2.out.c1
    have y2 := Hk2.out.c2
    clear hv ho H1 HT Hb HS hl1 hb1 hB1 Hk1 hd
    obtain ⟨dg, dV, dE⟩ := d
    simp only at hg hz hE
    subst hg hE
    have hfe1 := hfine.1
    have hfe2 := hfine.2.1
    simp only at hfe1 hfe2
    rcases exD_cases ⟨g1, dV, E1⟩ with ⟨h0, k1⟩ | ⟨h0, hbad, k1⟩ | ⟨h0, h1, h2, h3, k1⟩
    · rw [k1] at hv'
      obtain ⟨rfl, rfl⟩ := Prod.mk.inj hv'
      have H2 := Lib.hid (top_zero g1 A1 m1 c1 zs E1 _ Hl1.out (by omega) (hz.trans h0))
      clear hv' k1 h0 hz hfine Hl1
      go_wp2_with fail
      refine H2.out.mono ?_
      rintro e w2 ⟨rfl, hB2⟩
      have Hfin := Lib.hid (HS1.out.trans (hB2.mono HS1.out.size))
      clear hB2 H2 Hk2 HS1
      go_wp2
      go_ret2
      exact ⟨rfl, Hfin.out⟩
    · rw [k1] at hv'
      obtain ⟨rfl, rfl⟩ := Prod.mk.inj hv'
      simp only at h0 hbad
      obtain ⟨T, hT⟩ : ∃ T, (blen dV : Int) - 1 + E1 = T := ⟨_, rfl⟩
      have hB := blen_pos h0
      have hbl := Hl1.out.blen_le
      rw [hz] at hbl
      rw [hT] at hbad
      have H2 := Lib.hid (top_l T g1 A1 m1 c1 zs E1 _ Hl1.out (by omega) (by rw [hz]; exact h0) (by show topD _ _ = T; rw [hz, topD, held_id hfe1 hfe2]; exact hT))
      have hT1 : -1073741824 ≤ T := by omega
      have hT2 : T ≤ 1073741824 + 64 * 4294967296 := by omega
      have hTE : T - E1 = (blen dV : Int) - 1 := by omega
      rw [← hTE] at hbad
      clear hv' k1 h0 hz hfine Hl1 hT hB hbl hTE
      by_cases q1 : 1023 < T
      · have b1 : decide ((1023 : Int) < T) = true := decide_eq_true q1
        clear hbad
        go_wp2_with fail
        refine H2.out.mono ?_
        rintro e w2 ⟨rfl, hB2⟩
        have Hfin := Lib.hid (HS1.out.trans (hB2.mono HS1.out.size))
        have Hk3 := Hk2.out.below hB2
        have z2 := Hk3.c2
        clear hB2 H2 Hk2 HS1 Hk3
        go_wp2
        go_ret2
        exact ⟨rfl, Hfin.out⟩
      · have b1 : decide ((1023 : Int) < T) = false := decide_eq_false q1
        by_cases q2 : E1 < -1074
        · have b2 : decide (E1 < -1074) = true := decide_eq_true q2
          clear hbad
          go_wp2_with fail
          refine H2.out.mono ?_
          rintro e w2 ⟨rfl, hB2⟩
          have Hfin := Lib.hid (HS1.out.trans (hB2.mono HS1.out.size))
          have Hk3 := Hk2.out.below hB2
          have z2 := Hk3.c2
          clear hB2 H2 Hk2 HS1 Hk3
          go_wp2
          go_ret2
          exact ⟨rfl, Hfin.out⟩
        · have b2 : decide (E1 < -1074) = false := decide_eq_false q2
          have b3 : decide ((52 : Int) < T - E1) = true := decide_eq_true (by omega)
          clear hbad
          go_wp2_with fail
          refine H2.out.mono ?_
          rintro e w2 ⟨rfl, hB2⟩
          have Hfin := Lib.hid (HS1.out.trans (hB2.mono HS1.out.size))
          have Hk3 := Hk2.out.below hB2
          have z2 := Hk3.c2
          clear hB2 H2 Hk2 HS1 Hk3
          go_wp2
          go_ret2
          exact ⟨rfl, Hfin.out⟩
    · rw [k1] at hv'
      obtain ⟨hX, rfl⟩ := Prod.mk.inj hv'
      simp only at h0 h1 h2 h3 hX
      obtain ⟨T, hT⟩ : ∃ T, (blen dV : Int) - 1 + E1 = T := ⟨_, rfl⟩
      have hB := blen_pos h0
      rw [hT] at h1 hX
      have H2 := Lib.hid (top_l T g1 A1 m1 c1 zs E1 _ Hl1.out (by omega) (by rw [hz]; exact h0) (by show topD _ _ = T; rw [hz, topD, held_id hfe1 hfe2]; exact hT))
      obtain ⟨Y, hY⟩ : ∃ Y, layd dV E1 T = Y := ⟨_, rfl⟩
      have H3 : Hid (∀ w, Calls Tryd.prog 83 #[.int .u64 (dV : Int), .int .i64 E1, .int .i64 T] w fun e w' => e = .returned (.int .u64 (Y : Int)) ∧ w = w') := fun w => laid_l Y dV E1 T h0 hT.symm h1 h2 h3 w hY
      have hdV : dV < 18446744073709551616 := by
        have : blen dV ≤ 64 := by omega
        exact blen_le_iff.1 this
      have hYb : Y < 9223372036854775808 := by
        obtain ⟨L, M, k, i1, i2, i3, i4, i5, _⟩ := layd_spec h0 hT.symm h1 h2 h3
        rw [hY] at i1
        omega
      rw [hY] at hX
      have H4 : Hid (∀ w', Lim w' A1 m1 c1 zs → Calls Tryd.prog 82 #[.slice A1 m1 c1] w' fun e w'' => e = .returned (.tuple #[.int .u64 (dV : Int), .bool true]) ∧ w' = w'') := fun w' hw' => by
        have := small_yes A1 m1 c1 zs w' hw' (by omega) (by rw [hz]; exact hdV)
        rw [hz] at this
        exact this
      have b1 : decide ((1023 : Int) < T) = false := decide_eq_false (by omega)
      have b2 : decide (E1 < -1074) = false := decide_eq_false (by omega)
      have b3 : decide ((52 : Int) < T - E1) = false := decide_eq_false (by omega)
      have hT1 : -2000 ≤ T := by omega
      clear hv' k1 h0 hz hfine hT hB hY
      cases g1 with
      | false =>
        obtain rfl : Y = X := by rw [← hX]; exact (Nat.zero_add _).symm
        clear hX
        go_wp2_with fail
        refine H2.out.mono ?_
        rintro e w2 ⟨rfl, hB2⟩
        have Hfin := Lib.hid (HS1.out.trans (hB2.mono HS1.out.size))
        have Hk3 := Hk2.out.below hB2
        have z0 := Hk3.c0
        have z1 := Hk3.c1
        have z2 := Hk3.c2
        have HL := Lib.hid (Hl1.out.below hB2)
        clear hB2 H2 Hk2 HS1 Hk3 Hl1
        go_wp2_with fail
        refine (H4.out _ HL.out).mono ?_
        rintro e w' ⟨rfl, rfl⟩
        go_wp2_with fail
        refine (H3.out _).mono ?_
        rintro e w' ⟨rfl, rfl⟩
        go_wp2
        go_ret2
        exact ⟨rfl, Hfin.out⟩
      | true =>
        have hor := or_sign Y hYb
        have hX2 : 9223372036854775808 + Y = X := hX
        rw [hX2] at hor
        clear hX hX2
        go_wp2_with fail
        refine H2.out.mono ?_
        rintro e w2 ⟨rfl, hB2⟩
        have Hfin := Lib.hid (HS1.out.trans (hB2.mono HS1.out.size))
        have Hk3 := Hk2.out.below hB2
        have z0 := Hk3.c0
        have z1 := Hk3.c1
        have z2 := Hk3.c2
        have HL := Lib.hid (Hl1.out.below hB2)
        clear hB2 H2 Hk2 HS1 Hk3 Hl1
        go_wp2_with fail
        refine (H4.out _ HL.out).mono ?_
        rintro e w' ⟨rfl, rfl⟩
        go_wp2_with fail
        refine (H3.out _).mono ?_
        rintro e w' ⟨rfl, rfl⟩
        go_wp2
        go_ret2
        exact ⟨rfl, Hfin.out⟩
end Go.Proofs.YtgacafdkhailmaaDoor
