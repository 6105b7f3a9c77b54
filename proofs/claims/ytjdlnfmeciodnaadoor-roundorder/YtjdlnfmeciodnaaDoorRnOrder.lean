/- The walk of RoundOrder, of lists of at most 40 limbs. -/
import Derived.Test.YtjdlnfmeciodnaaDoorRnWays
import Derived.Test.YtjdlnfmeciodnaaDoorFlParts
import Derived.Deep.CutBlock
namespace Go.Proofs.YtjdlnfmeciodnaaDoor
open Go.RowKit

/-- What Dyad tells of any bits, and To of that. -/
theorem rdyad_any (b : Nat) (r : Int) (hb : b < 18446744073709551616) (hrd : 0 ≤ r ∧ r ≤ 3) (w : World) (hT : Tab w) :
    ∃ (cc jj : Nat) (kk : Int) (ok d0 : Bool) (d2 : Int), (ok = false ∨ (ok = true ∧ kk = 0 ∧ jj = 0 ∧ cc = b) ∨ (ok = true ∧ kk = 0 ∧ jj = 0 ∧ b = 9223372036854775808 ∧ cc = 0)) ∧
      Calls Tryd.prog 14 #[.int .u64 (b : Int)] w fun e w' => ∃ (A7 : Option Addr) (m7 c7 : Nat) (us : List Nat), e = .returned (.tuple #[.agg #[.bool d0, .slice A7 m7 c7, .int .i64 d2], .bool ok]) ∧ m7 ≤ 1 ∧ Lim w' A7 m7 c7 us ∧ toR d0 (val us) d2 false r = (cc, jj, kk) ∧ Below w.heap.size w w' := by
  by_cases hf : Fnt b
  · obtain ⟨cc, k1, k2, k3⟩ := r_fix hb hf hrd
    refine ⟨cc, 0, 0, true, (fO b).neg, (fO b).e, Or.inr ?_, ?_⟩
    · rcases k3 with k3 | k3
      · exact Or.inl ⟨rfl, rfl, rfl, k3⟩
      · exact Or.inr ⟨rfl, rfl, rfl, k3⟩
    · refine (fdyad_yes b hb w hT hf).mono ?_
      rintro e w' ⟨A7, m7, c7, us, rfl, h1, h2, _, h4, h5⟩
      exact ⟨A7, m7, c7, us, rfl, h1, h2, by rw [h4]; exact k1, h5⟩
  · refine ⟨(toR false (val []) 0 false r).1, (toR false (val []) 0 false r).2.1, (toR false (val []) 0 false r).2.2, false, false, 0, Or.inl rfl, ?_⟩
    refine (fdyad_no b hb w hf).mono ?_
    rintro e w' ⟨rfl, h5⟩
    exact ⟨none, 0, 0, [], rfl, Nat.zero_le _, Lim.nil _ _ _, rfl, h5⟩

set_option maxRecDepth 20000 in
set_option maxHeartbeats 4000000 in
theorem rorder_main (g : Bool) (A : Option Addr) (n c : Nat) (xs : List Nat) (e1 : Int) (k : Bool) (B : Option Addr) (m d : Nat) (ys : List Nat) (e2 : Int) (dr b : Nat) (w : World) (hT : Tab w) (hA : Lim w A n c xs) (hB : Lim w B m d ys) (hn : n ≤ 40) (hm : m ≤ 40) (hdr : dr < 256) (hb : b < 18446744073709551616) :
    Calls Tryd.prog 4 #[.agg #[.bool g, .slice A n c, .int .i64 e1], .agg #[.bool k, .slice B m d, .int .i64 e2], .int .u8 (dr : Int), .int .u64 (b : Int)] w fun e w' => e = .returned (.bool true) ∧ Below w.heap.size w w' := by
  obtain ⟨r, hr⟩ : ∃ r, dr % 4 = r := ⟨_, rfl⟩
  have er : (dr : Int) % 4 = (r : Int) := by omega
  have hr3 : r ≤ 3 := by omega
  have hrd : 0 ≤ (r : Int) ∧ (r : Int) ≤ 3 := by omega
  obtain ⟨M, hM⟩ : ∃ M, mir (r : Int) = M := ⟨_, rfl⟩
  have HM := Lib.hid hM
  have H0 := Lib.hid (HeldR.start w g A n c xs e1 k B m d ys e2 hA hB hT)
  have H1 := Lib.hid (ralive_any _ H0.out.2.2.2.2.1)
  obtain ⟨⟨x, f, E1⟩, t1⟩ : ∃ t, toR g (val xs) e1 false (r : Int) = t := ⟨_, rfl⟩
  obtain ⟨⟨y, f2, E2⟩, t2⟩ : ∃ t, toR k (val ys) e2 false (r : Int) = t := ⟨_, rfl⟩
  obtain ⟨⟨z, h, i⟩, t3⟩ : ∃ t, mTo g (val xs) e1 M = t := ⟨_, rfl⟩
  obtain ⟨hx, hE1⟩ := toR_lt t1
  obtain ⟨hy, hE2⟩ := toR_lt t2
  have T1 := Lib.hid t1
  have T2 := Lib.hid t2
  have T3 := Lib.hid t3
  have q1 : decide ((40 : Int) < (n : Int)) = false := decide_eq_false (by omega)
  have q2 : decide ((40 : Int) < (m : Int)) = false := decide_eq_false (by omega)
  have q1' : decide (40 < n) = false := decide_eq_false (by omega)
  have q2' : decide (40 < m) = false := decide_eq_false (by omega)
  have hcase : (E1 = 1) ∨ (E1 = 0 ∧ E2 = 1) ∨ (E1 = 0 ∧ E2 = 0 ∧ i = 0 ∧ h = f ∧ z < 18446744073709551616 ∧ ((x ≠ 0 ∧ x ^^^ z = 9223372036854775808) ∨ (x = 0 ∧ (z = 0 ∨ z = 9223372036854775808))) ∧ (rv y < rv x → cmpI (dw g (val xs) e1) (dw k (val ys) e2) = 1)) := by
    rcases hE1 with h0 | h0
    · refine Or.inr ?_
      rcases hE2 with h0' | h0'
      · refine Or.inr ⟨h0, h0', ?_⟩
        rw [h0] at t1
        rw [h0'] at t2
        obtain ⟨d', hd', _, _⟩ := toR_ok t1
        obtain ⟨b', hb'⟩ := mk_turn hd'
        obtain ⟨z', k1, k2, k3, k4⟩ := r_mirror t1 hb'
        rw [hM] at k1
        unfold mTo at t3
        rw [hb'] at t3
        simp only at t3
        rw [k1] at t3
        simp only [Prod.mk.injEq] at t3
        obtain ⟨rfl, rfl, rfl⟩ := t3
        refine ⟨rfl, rfl, k3, k4, fun hlt => ?_⟩
        rcases Int.lt_trichotomy (dw g (val xs) e1) (dw k (val ys) e2) with h5 | h5 | h5
        · have := r_mono t1 t2 (by omega); omega
        · have := r_mono t1 t2 (by omega); omega
        · exact cmpI_gt h5
      · exact Or.inl ⟨h0, h0'⟩
    · exact Or.inl h0
  clear t1 t2 t3 hA hB hT hr hM hE1 hE2
  go_enter Tryd.func4, Tryd.ntmps4
  go_wp2_with fail
  refine H1.out.mono ?_
  rintro e w1 ⟨rfl, hb1⟩
  have J1 := Lib.hid (H0.out.below hb1)
  clear hb1 H1 H0
  have x0 := J1.out.1.c0
  have x1 := J1.out.1.c1
  have x2 := J1.out.1.c2
  have y1 := J1.out.2.1.c1
  go_upto_if 52 with fail
  go_cut [10] from 35 (fun s10 wx => s10 = .int .i64 M ∧ wx = w1)
  case first =>
    have h4 : r = 2 ∨ r = 3 ∨ (r ≠ 2 ∧ r ≠ 3) := by omega
    clear hcase
    rcases h4 with h4 | h4 | ⟨h4, h5⟩
    · subst h4
      obtain rfl : M = 3 := by rw [← HM.out]; decide
      go_wp2_with fail
      go_meet
      exact ⟨rfl, rfl⟩
    · subst h4
      obtain rfl : M = 2 := by rw [← HM.out]; decide
      go_wp2_with fail
      go_meet
      exact ⟨rfl, rfl⟩
    · obtain rfl : M = (r : Int) := by rw [← HM.out]; unfold mir; rw [if_neg (by omega), if_neg (by omega)]
      have c2 : ((r : Int) == 2) = false := beq_no (by omega)
      have c3 : ((r : Int) == 3) = false := beq_no (by omega)
      go_wp2_with fail
      go_meet
      exact ⟨rfl, rfl⟩
  case rest =>
    obtain ⟨rfl, hwc⟩ := hcut
    obtain rfl : w1 = wc := hwc.symm
    have HA1 := Lib.hid (to_l x f E1 g A n c xs e1 false (r : Int) w1 J1.out.2.2.1 (by omega) J1.out.2.2.2.2.1 T1)
    go_wp2_with fail
    refine HA1.out.mono ?_
    rintro e w2 ⟨rfl, hb2⟩
    have J2 := Lib.hid (J1.out.below hb2)
    clear hb2 HA1 J1 x0 x1 x2 y1
    have y0 := J2.out.2.1.c0
    have y1 := J2.out.2.1.c1
    have y2 := J2.out.2.1.c2
    have HA2 := Lib.hid (to_l y f2 E2 k B m d ys e2 false (r : Int) w2 J2.out.2.2.2.1 (by omega) J2.out.2.2.2.2.1 T2)
    go_wp2_with fail
    refine HA2.out.mono ?_
    rintro e w3 ⟨rfl, hb3⟩
    have J3 := Lib.hid (J2.out.below hb3)
    clear hb3 HA2 J2 y0 y1 y2
    have x0 := J3.out.1.c0
    have x1 := J3.out.1.c1
    have x2 := J3.out.1.c2
    have HA3 := Lib.hid (minus_to M g A n c xs e1 w3 J3.out.2.2.1 (by omega) J3.out.2.2.2.2.1)
    go_wp2_with fail
    refine HA3.out.mono ?_
    rintro e w4 ⟨g4, A4, m4, c4, zs, E4, rfl, hm4, hl4, ht4, hb4⟩
    have J4 := Lib.hid (J3.out.below hb4)
    have HA4 := Lib.hid (to_l z h i g4 A4 m4 c4 zs E4 false M w4 hl4 (by omega) J4.out.2.2.2.2.1 (by rw [ht4]; exact T3))
    clear hb4 HA3 J3 x0 x1 x2 hl4 ht4
    go_wp2_with fail
    refine HA4.out.mono ?_
    rintro e w5 ⟨rfl, hb5⟩
    have J5 := Lib.hid (J4.out.below hb5)
    clear hb5 HA4 J4 T1 T2 T3 HM
    rcases hcase with rfl | ⟨rfl, rfl⟩ | ⟨rfl, rfl, rfl, rfl, hz, hxz, hcmp⟩
    · have Hfin := Lib.hid J5.out.2.2.2.2.2
      clear J5
      go_wp2
      go_ret
      exact ⟨rfl, Hfin.out⟩
    · have Hfin := Lib.hid J5.out.2.2.2.2.2
      clear J5
      go_wp2
      go_ret
      exact ⟨rfl, Hfin.out⟩
    · have Hxz := Lib.hid hxz
      have Hcmp := Lib.hid hcmp
      clear hxz hcmp
      go_upto_region 16 with fail
      go_cut [111] from 35 (fun s111 wx => s111 = .bool false ∧ wx = w5)
      case first =>
        have hff : ((h : Int) != (h : Int)) = false := by simp
        rcases Hxz.out with ⟨h0, h1⟩ | ⟨h0, h1 | h1⟩
        · have c1 : ((x : Int) != 0) = true := bne_yes (by omega)
          have c2 : ((x : Int) == 0) = false := beq_no (by omega)
          have c3 := bits_xor_u64_nat x z hx hz
          rw [h1] at c3
          clear h0 h1 Hxz Hcmp J5
          go_wp2_with fail
          go_meet
          exact ⟨rfl, rfl⟩
        · subst h0 h1
          clear Hxz Hcmp J5
          go_wp2_with fail
          go_meet
          exact ⟨rfl, rfl⟩
        · subst h0 h1
          clear Hxz Hcmp J5
          go_wp2_with fail
          go_meet
          exact ⟨rfl, rfl⟩
      case rest =>
        obtain ⟨rfl, hwc⟩ := hcut
        obtain rfl : w5 = wc := hwc.symm
        clear Hxz
        go_upto_region 18 with fail
        go_cut [122] from 35 (fun s122 wx => s122 = .bool false ∧ Hid (HeldR w w.heap.size g A n c xs e1 (w.heap.size + 1) k B m d ys e2 wx))
        case first =>
          obtain ⟨vx, hvx⟩ : ∃ v, rv x = v := ⟨_, rfl⟩
          obtain ⟨vy, hvy⟩ : ∃ v, rv y = v := ⟨_, rfl⟩
          have hc := Hcmp.out
          rw [hvx, hvy] at hc
          have V1 := Lib.hid (value_l vx x hx (by omega) w5 hvx)
          have V2 := Lib.hid (value_l vy y hy (by omega) w5 hvy)
          clear hvx hvy Hcmp
          by_cases hlt : vy < vx
          · have C1 := Lib.hid (dcmp_l 1 g A n c xs e1 k B m d ys e2 w5 J5.out.2.2.1 J5.out.2.2.2.1 (by omega) (by omega) J5.out.2.2.2.2.1 (hc hlt))
            have q3 : decide (vy < vx) = true := decide_eq_true hlt
            have x0 := J5.out.1.c0
            have x1 := J5.out.1.c1
            have x2 := J5.out.1.c2
            have y0 := J5.out.2.1.c0
            have y1 := J5.out.2.1.c1
            have y2 := J5.out.2.1.c2
            clear hc hlt
            go_wp2_with fail
            refine V1.out.mono ?_
            rintro e w' ⟨rfl, rfl⟩
            go_wp2_with fail
            refine V2.out.mono ?_
            rintro e w' ⟨rfl, rfl⟩
            go_wp2_with fail
            refine C1.out.mono ?_
            rintro e w6 ⟨rfl, hb6⟩
            have J6 := Lib.hid (J5.out.below hb6)
            clear hb6 J5 C1 V1 V2 x0 x1 x2 y0 y1 y2
            go_wp2_with fail
            go_meet
            exact ⟨rfl, J6⟩
          · have q3 : decide (vy < vx) = false := decide_eq_false hlt
            clear hc hlt
            go_wp2_with fail
            refine V1.out.mono ?_
            rintro e w' ⟨rfl, rfl⟩
            go_wp2_with fail
            refine V2.out.mono ?_
            rintro e w' ⟨rfl, rfl⟩
            clear V1 V2
            go_wp2_with fail
            go_meet
            exact ⟨rfl, J5⟩
        case rest =>
          obtain ⟨wA, rfl⟩ : ∃ wA, wA = wc := ⟨_, rfl⟩
          obtain ⟨rfl, J6⟩ := hcut
          clear J5 Hcmp q1 q2 q1' q2'
          have HS6 := Lib.hid J6.out.2.2.2.2.2
          have HT6 := Lib.hid J6.out.2.2.2.2.1
          clear J6
          obtain ⟨O, hO⟩ : ∃ O, (overO true (r : Int)).1 = O := ⟨_, rfl⟩
          obtain ⟨U, hU⟩ : ∃ U, sgn false (awy false (r : Int) false false true).toNat = U := ⟨_, rfl⟩
          have F1 := far_eq r hr3
          rw [hO] at F1
          have F2 := small_eq r hr3
          rw [hU] at F2
          have HO := Lib.hid hO
          have HU := Lib.hid hU
          have HF1 := Lib.hid F1
          have HF2 := Lib.hid F2
          clear hO hU F1 F2
          obtain ⟨cc, jj, kk, ok, d0, d2, hfix, D1⟩ := rdyad_any b (r : Int) hb hrd wA HT6.out
          have D1 := Lib.hid D1
          have Hfix := Lib.hid hfix
          clear hfix
          go_wp2_with fail
          refine D1.out.mono ?_
          rintro e w7 ⟨A7, m7, c7, us, rfl, hm7, hl7, ht7, hb7⟩
          have a7 := below1 w7 (.cells #[.bool d0, .slice A7 m7 c7, .int .i64 d2] 35)
          have hb7' := hb7.trans (a7.mono hb7.size)
          have HS7 := Lib.hid (HS6.out.trans (hb7'.mono HS6.out.size))
          have HT7 := Lib.hid (HT6.out.below hb7')
          have G7 := Lib.hid (to_l cc jj kk d0 A7 m7 c7 us d2 false (r : Int) _ (hl7.below a7) (by omega) HT7.out ht7)
          clear hb7 hb7' a7 D1 HS6 HT6 hl7 ht7
          go_wp2_with fail
          refine G7.out.mono ?_
          rintro e w8 ⟨rfl, hb8⟩
          have HS8 := Lib.hid (HS7.out.trans (hb8.mono HS7.out.size))
          have HT8 := Lib.hid (HT7.out.below hb8)
          clear hb8 G7 HS7 HT7
          go_upto_region 22 with fail
          go_cut [156] from 35 (fun s156 wx => s156 = .bool false ∧ wx = w8)
          case first =>
            clear HS8 HT8 HO HU HF1 HF2
            rcases Hfix.out with rfl | ⟨rfl, rfl, rfl, rfl⟩ | ⟨rfl, rfl, rfl, rfl, rfl⟩
            · clear Hfix
              go_wp2_with fail
              go_meet
              exact ⟨rfl, rfl⟩
            · have cb : ((cc : Int) != (cc : Int)) = false := by simp
              clear Hfix
              go_wp2_with fail
              go_meet
              exact ⟨rfl, rfl⟩
            · clear Hfix
              go_wp2_with fail
              go_meet
              exact ⟨rfl, rfl⟩
          case rest =>
            obtain ⟨rfl, hwc⟩ := hcut
            obtain rfl : w8 = wc := hwc.symm
            clear Hfix
            have G3 := Lib.hid (fun w => over_l O true (r : Int) w HO)
            have G4 := Lib.hid (fun w => under_l U false (r : Int) w HU)
            clear HO HU
            go_wp2_with fail
            refine (G3.out _).mono ?_
            rintro e w' ⟨rfl, rfl⟩
            go_wp2_with fail
            refine (G4.out _).mono ?_
            rintro e w' ⟨rfl, rfl⟩
            have a9 := below1 w8 (.cells #[.int .u64 1] 30)
            have n9 := lim_new1 w8 30 1 1 rfl (by decide)
            have HT9 := Lib.hid (HT8.out.below a9)
            have HS9 := Lib.hid (HS8.out.trans (a9.mono HS8.out.size))
            have G1 := Lib.hid (to_l O 5 0 true _ 1 1 [1] 2000 false (r : Int) _ n9 (by decide) HT9.out HF1)
            clear a9 n9 HT8 HS8
            go_wp2_with fail
            refine G1.out.mono ?_
            rintro e w10 ⟨rfl, hb10⟩
            have hb11 := hb10.trans ((below1 w10 (.cells #[.int .u64 1] 30)).mono hb10.size)
            have n11 := lim_new1 w10 30 1 1 rfl (by decide)
            have HS11 := Lib.hid (HS9.out.trans (hb11.mono HS9.out.size))
            have G2 := Lib.hid (to_l U 3 0 false _ 1 1 [1] (-2000) false (r : Int) _ n11 (by decide) (HT9.out.below hb11) HF2)
            clear hb10 hb11 n11 HS9 HT9 G1
            go_wp2_with fail
            refine G2.out.mono ?_
            rintro e w12 ⟨rfl, hb12⟩
            have Hfin := Lib.hid (HS11.out.trans (hb12.mono HS11.out.size))
            clear hb12 HS11 G2
            go_wp2
            go_ret
            exact ⟨rfl, Hfin.out⟩

theorem walk_roundOrder (g : Bool) (A : Option Addr) (n c : Nat) (xs : List Nat) (e1 : Int) (k : Bool) (B : Option Addr) (m d : Nat) (ys : List Nat) (e2 : Int) (dir0 bits0 : Int) (w : World) (hT : Tab w) (hA : Lim w A n c xs) (hB : Lim w B m d ys) (h0 : 0 ≤ dir0) (h1 : dir0 ≤ 255) (h2 : 0 ≤ bits0) (h3 : bits0 ≤ 18446744073709551615) :
    Calls Tryd.prog 4 #[.agg #[.bool g, .slice A n c, .int .i64 e1], .agg #[.bool k, .slice B m d, .int .i64 e2], .int .u8 dir0, .int .u64 bits0] w fun e w' => e = .returned (.bool true) ∧ Below w.heap.size w w' := by
  obtain ⟨dr, rfl⟩ := Int.eq_ofNat_of_zero_le h0
  obtain ⟨b, rfl⟩ := Int.eq_ofNat_of_zero_le h2
  by_cases hn : n ≤ 40
  case neg => exact rorder_long g A n c xs e1 k B m d ys e2 dr b w hT hA hB (Or.inl (by omega))
  by_cases hm : m ≤ 40
  case neg => exact rorder_long g A n c xs e1 k B m d ys e2 dr b w hT hA hB (Or.inr ⟨hn, by omega⟩)
  exact rorder_main g A n c xs e1 k B m d ys e2 dr b w hT hA hB hn hm (by omega) (by omega)
end Go.Proofs.YtjdlnfmeciodnaaDoor
