/- The walk of the law RatioTurned. -/
import Derived.Test.YteflihpnhgicfaaDoorRtAlive
namespace Go.Proofs.YteflihpnhgicfaaDoor
open Go.RowKit

/-- A dyad of one limb, and a small power of it: it fits. -/
theorem one_limb {m : Nat} {e : Int} (hm : m ≠ 0) (hm9 : m < 18446744073709551616) (h1 : -128 ≤ e) (h2 : e ≤ 127) : ∃ V E, mk false m e = some ⟨false, V, E⟩ ∧ V ≠ 0 ∧ blen V ≤ 64 ∧ -128 ≤ E ∧ E ≤ 200 := by
  have hb : blen m ≤ 64 := blen_le_iff.2 hm9
  have hl := low_le_blen m
  refine ⟨m / 2 ^ low m, e + low m, ?_, fun h => hm (odd_part_zero.1 h), Nat.le_trans (blen_mono (Nat.div_le_self _ _)) hb, by omega, by omega⟩
  unfold mk
  rw [held_id (by omega) (by omega)]
  unfold toldD
  rw [if_neg (fun h => hm (odd_part_zero.1 h)), if_neg (by omega)]
theorem fit_small {V : Nat} {E : Int} {p : Int} (h : blen V ≤ 64) (h1 : -128 ≤ E) (h2 : E ≤ 200) (hp : p.natAbs ≤ 12) : fitB V E p = true := by
  unfold fitB
  have q1 := Nat.mul_le_mul h hp
  have q2 : E.natAbs * p.natAbs ≤ 200 * 12 := Nat.mul_le_mul (by omega) hp
  rw [decide_eq_true (by omega), decide_eq_true (by omega)]
  rfl
theorem cmpR_small {V U : Nat} {E F p : Int} {q : Nat} (hV : V ≠ 0) (hU : U ≠ 0) (b1 : blen V ≤ 64) (b2 : blen U ≤ 64) (h1 : -128 ≤ E) (h2 : E ≤ 200) (h3 : -128 ≤ F) (h4 : F ≤ 200) (hp : p.natAbs ≤ 12) (hq : q ≤ 12) (hq1 : 1 ≤ q) :
    cmpR (some ⟨false, V, E⟩) p (some ⟨false, U, F⟩) (q : Int) = (ratC V E p U F q, 0) := by
  unfold cmpR
  simp only
  rw [if_pos ⟨by unfold sgD; rw [if_neg hV]; decide, by unfold sgD; rw [if_neg hU]; decide, by omega⟩, fit_small b1 h1 h2 hp, fit_small b2 h3 h4 (by omega), Int.toNat_natCast]
  rfl
theorem ratC_bd (V : Nat) (e m : Int) (U : Nat) (f : Int) (k : Nat) : -1 ≤ ratC V e m U f k ∧ ratC V e m U f k ≤ 1 := by
  unfold ratC; split <;> exact cq_bd _ _ _ _

set_option maxHeartbeats 2000000 in
set_option maxRecDepth 20000 in
theorem turned_nil (m n i k : Nat) (e f : Int) (w : World) (hT : Tab w) (h : m = 0 ∨ n = 0) :
    Calls Tryd.prog 6 #[.int .u64 (m : Int), .int .u64 (n : Int), .int .u8 (i : Int), .int .u8 (k : Int), .int .i8 e, .int .i8 f] w fun e w' => e = .returned (.bool true) ∧ Below w.heap.size w w' := by
  have H1 := Lib.hid (ralive_any w hT)
  go_enter Tryd.func6, Tryd.ntmps6
  go_wp2_with fail
  refine H1.out.mono ?_
  rintro e w1 ⟨rfl, hB1⟩
  have Hfin := Lib.hid hB1
  clear hB1 H1 hT
  by_cases h0 : m = 0
  · subst h0
    clear h
    go_wp2
    go_ret
    exact ⟨rfl, Hfin.out⟩
  · have b0 : ((m : Int) == 0) = false := beq_eq_false_iff_ne.2 (by omega)
    obtain rfl : n = 0 := by omega
    clear h h0
    go_wp2
    go_ret
    exact ⟨rfl, Hfin.out⟩

set_option maxHeartbeats 4000000 in
set_option maxRecDepth 20000 in
theorem turned_any (m n i k : Nat) (e f : Int) (w : World) (hT : Tab w) (hm0 : m ≠ 0) (hn0 : n ≠ 0) (hm : m < 18446744073709551616) (hn : n < 18446744073709551616) (hi : i ≤ 255) (hk : k ≤ 255) (he1 : -128 ≤ e) (he2 : e ≤ 127) (hf1 : -128 ≤ f) (hf2 : f ≤ 127) :
    Calls Tryd.prog 6 #[.int .u64 (m : Int), .int .u64 (n : Int), .int .u8 (i : Int), .int .u8 (k : Int), .int .i8 e, .int .i8 f] w fun e w' => e = .returned (.bool true) ∧ Below w.heap.size w w' := by
  have H1 := Lib.hid (ralive_any w hT)
  have HT := Lib.hid hT
  obtain ⟨V, E, q1, q2, q3, q4, q5⟩ := one_limb hm0 hm he1 he2
  obtain ⟨U, F, r1, r2, r3, r4, r5⟩ := one_limb hn0 hn hf1 hf2
  obtain ⟨p, hp⟩ : ∃ p, 1 + i % 12 = p := ⟨_, rfl⟩
  obtain ⟨q, hq⟩ : ∃ q, 1 + k % 12 = q := ⟨_, rfl⟩
  have ep : 1 + (i : Int) % 12 = (p : Int) := by omega
  have eq : 1 + (k : Int) % 12 = (q : Int) := by omega
  have hp1 : 1 ≤ p := by omega
  have hp9 : p ≤ 12 := by omega
  have hq1 : 1 ≤ q := by omega
  have hq9 : q ≤ 12 := by omega
  have b0 : ((m : Int) == 0) = false := beq_eq_false_iff_ne.2 (by omega)
  have b1 : ((n : Int) == 0) = false := beq_eq_false_iff_ne.2 (by omega)
  obtain ⟨a, ha⟩ : ∃ a, ratC V E p U F q = a := ⟨_, rfl⟩
  obtain ⟨b, hb⟩ : ∃ b, ratC U F q V E p = b := ⟨_, rfl⟩
  obtain ⟨c, hc⟩ : ∃ c, ratC V E (-(p : Int)) U F q = c := ⟨_, rfl⟩
  obtain ⟨u, hu⟩ : ∃ u, ratC V E p 1 0 1 = u := ⟨_, rfl⟩
  obtain ⟨v, hv⟩ : ∃ v, ratC V E (-(p : Int)) 1 0 1 = v := ⟨_, rfl⟩
  have hd : ratC U F (-(q : Int)) V E p = c := by rw [← hc]; exact (ratC_both (by omega) (by omega)).symm
  have hab : -b = a := by rw [← ha, ← hb, ratC_flip, Int.neg_neg]
  have hbb := ratC_bd U F q V E p
  rw [hb] at hbb
  have huv : -v = u := by rw [← hu, ← hv, ratC_one (by omega), ratC_one_neg (by omega), Int.neg_neg]
  have hvb := ratC_bd V E (-(p : Int)) 1 0 1
  rw [hv] at hvb
  have hone : mk false 1 0 = some ⟨false, 1, 0⟩ := rfl
  have hcm : Hid (cmpI (dw false m e) (dw false 1 0) = u) := by
    show _ = _
    have h9 := (mk_fine q1).2.1
    simp only at h9
    rw [← h9, cq_dw (by omega) (by omega) (by decide) (by decide), ← hu, ratC_one (by omega)]
  have v1 : val [m] = m := by simp [val]
  have v2 : val [n] = n := by simp [val]
  have C1 : Hid (cmpR (mk false (val [m]) e) (p : Int) (mk false (val [n]) f) (q : Int) = (a, 0)) := by show _ = _; rw [v1, v2, q1, r1, cmpR_small q2 r2 q3 r3 q4 q5 r4 r5 (by omega) hq9 hq1, ha]
  have C2 : Hid (cmpR (mk false (val [n]) f) (q : Int) (mk false (val [m]) e) (p : Int) = (b, 0)) := by show _ = _; rw [v1, v2, q1, r1, cmpR_small r2 q2 r3 q3 r4 r5 q4 q5 (by omega) hp9 hp1, hb]
  have C3 : Hid (cmpR (mk false (val [m]) e) (-(p : Int)) (mk false (val [n]) f) (q : Int) = (c, 0)) := by show _ = _; rw [v1, v2, q1, r1, cmpR_small q2 r2 q3 r3 q4 q5 r4 r5 (by omega) hq9 hq1, hc]
  have C4 : Hid (cmpR (mk false (val [n]) f) (-(q : Int)) (mk false (val [m]) e) (p : Int) = (c, 0)) := by show _ = _; rw [v1, v2, q1, r1, cmpR_small r2 q2 r3 q3 r4 r5 q4 q5 (by omega) hp9 hp1, hd]
  have C5 : Hid (cmpR (mk false (val [m]) e) (p : Int) (mk false 1 0) 1 = (u, 0)) := by
    show _ = _
    rw [v1, q1, hone]
    have h9 := cmpR_small (p := (p : Int)) (q := 1) q2 (show (1 : Nat) ≠ 0 by decide) q3 (show blen 1 ≤ 64 by decide) q4 q5 (show (-128 : Int) ≤ 0 by decide) (show (0 : Int) ≤ 200 by decide) (by omega) (by decide) (by decide)
    rw [hu] at h9
    exact h9
  have C6 : Hid (cmpR (mk false (val [m]) e) (-(p : Int)) (mk false 1 0) 1 = (v, 0)) := by
    show _ = _
    rw [v1, q1, hone]
    have h9 := cmpR_small (p := -(p : Int)) (q := 1) q2 (show (1 : Nat) ≠ 0 by decide) q3 (show blen 1 ≤ 64 by decide) q4 q5 (show (-128 : Int) ≤ 0 by decide) (show (0 : Int) ≤ 200 by decide) (by omega) (by decide) (by decide)
    rw [hv] at h9
    exact h9
  have V1 := Lib.hid v1
  clear hT q1 q2 q3 q4 q5 r1 r2 r3 r4 r5 hp hq ha hb hc hd hu hv hone hm0 hn0 v1 v2
  have hb1 := hbb.1
  have hb2 := hbb.2
  have hv1 := hvb.1
  have hv2 := hvb.2
  clear hbb hvb
  go_enter Tryd.func6, Tryd.ntmps6
  go_wp2_with fail
  refine H1.out.mono ?_
  rintro e' w1 ⟨rfl, hB1⟩
  replace HT := Lib.hid (HT.out.below hB1)
  have HS := Lib.hid hB1
  clear hB1 H1
  have a4 : Below w1.heap.size w1 ((((w1.alloc (.cells #[.int .u64 (m : Int)] 53)).alloc (.cells #[.int .u64 (n : Int)] 53)).alloc (.cells #[.bool false, .slice (some ⟨w1.heap.size, 0, none⟩) 1 1, .int .i64 e] 30)).alloc (.cells #[.bool false, .slice (some ⟨w1.heap.size + 1, 0, none⟩) 1 1, .int .i64 f] 30)) := ((((Below.refl _ _).alloc (Nat.le_refl _) _).alloc (by simp) _).alloc (by simp; omega) _).alloc (by simp; omega) _
  have l1 := lim_new1 w1 53 m (m : Int) rfl hm
  have l2 := lim_new1 (w1.alloc (.cells #[.int .u64 (m : Int)] 53)) 53 n (n : Int) rfl hn
  rw [World.size_alloc] at l2
  have d1 := Bd.new ((w1.alloc (.cells #[.int .u64 (m : Int)] 53)).alloc (.cells #[.int .u64 (n : Int)] 53)) 30 false (some ⟨w1.heap.size, 0, none⟩) 1 1 e
  rw [World.size_alloc, World.size_alloc] at d1
  have d2 := Bd.new (((w1.alloc (.cells #[.int .u64 (m : Int)] 53)).alloc (.cells #[.int .u64 (n : Int)] 53)).alloc (.cells #[.bool false, .slice (some ⟨w1.heap.size, 0, none⟩) 1 1, .int .i64 e] 30)) 30 false (some ⟨w1.heap.size + 1, 0, none⟩) 1 1 f
  rw [World.size_alloc, World.size_alloc, World.size_alloc] at d2
  have s4 := HS.out.trans (a4.mono HS.out.size)
  have H0 : Hid (Held2 w (w1.heap.size + 1 + 1) false (some ⟨w1.heap.size, 0, none⟩) 1 1 [m] e (w1.heap.size + 1 + 1 + 1) false (some ⟨w1.heap.size + 1, 0, none⟩) 1 1 [n] f _) :=
    ⟨d1.alloc _, d2, ((l1.alloc _).alloc _).alloc _, (l2.alloc _).alloc _, HT.out.below a4, s4⟩
  clear a4 l1 l2 d1 d2 s4 HT HS
  have HC := Lib.hid (ratcmp_l a 0 false (some ⟨w1.heap.size, 0, none⟩) 1 1 [m] e (p : Int) false (some ⟨w1.heap.size + 1, 0, none⟩) 1 1 [n] f (q : Int) _ H0.out.2.2.1 H0.out.2.2.2.1 (by decide) (by decide) H0.out.2.2.2.2.1 (by omega) (by omega) (by omega) (by omega) C1)
  go_wp2_with fail
  refine HC.out.mono ?_
  rintro e' u0 ⟨rfl, hB⟩
  replace H0 := Lib.hid (H0.out.below hB)
  clear HC hB C1
  have HC := Lib.hid (ratcmp_l b 0 false (some ⟨w1.heap.size + 1, 0, none⟩) 1 1 [n] f (q : Int) false (some ⟨w1.heap.size, 0, none⟩) 1 1 [m] e (p : Int) _ H0.out.2.2.2.1 H0.out.2.2.1 (by decide) (by decide) H0.out.2.2.2.2.1 (by omega) (by omega) (by omega) (by omega) C2)
  have x0 := H0.out.1.c0
  have x1 := H0.out.1.c1
  have x2 := H0.out.1.c2
  have y0 := H0.out.2.1.c0
  have y1 := H0.out.2.1.c1
  have y2 := H0.out.2.1.c2
  go_wp2_with fail
  refine HC.out.mono ?_
  rintro e' u1 ⟨rfl, hB⟩
  replace H0 := Lib.hid (H0.out.below hB)
  clear HC hB C2 x0 x1 x2 y0 y1 y2
  have HC := Lib.hid (ratcmp_l c 0 false (some ⟨w1.heap.size, 0, none⟩) 1 1 [m] e (-(p : Int)) false (some ⟨w1.heap.size + 1, 0, none⟩) 1 1 [n] f (q : Int) _ H0.out.2.2.1 H0.out.2.2.2.1 (by decide) (by decide) H0.out.2.2.2.2.1 (by omega) (by omega) (by omega) (by omega) C3)
  have x0 := H0.out.1.c0
  have x1 := H0.out.1.c1
  have x2 := H0.out.1.c2
  have y0 := H0.out.2.1.c0
  have y1 := H0.out.2.1.c1
  have y2 := H0.out.2.1.c2
  go_wp2_with fail
  refine HC.out.mono ?_
  rintro e' u2 ⟨rfl, hB⟩
  replace H0 := Lib.hid (H0.out.below hB)
  clear HC hB C3 x0 x1 x2 y0 y1 y2
  have HC := Lib.hid (ratcmp_l c 0 false (some ⟨w1.heap.size + 1, 0, none⟩) 1 1 [n] f (-(q : Int)) false (some ⟨w1.heap.size, 0, none⟩) 1 1 [m] e (p : Int) _ H0.out.2.2.2.1 H0.out.2.2.1 (by decide) (by decide) H0.out.2.2.2.2.1 (by omega) (by omega) (by omega) (by omega) C4)
  have x0 := H0.out.1.c0
  have x1 := H0.out.1.c1
  have x2 := H0.out.1.c2
  have y0 := H0.out.2.1.c0
  have y1 := H0.out.2.1.c1
  have y2 := H0.out.2.1.c2
  go_wp2_with fail
  refine HC.out.mono ?_
  rintro e' u3 ⟨rfl, hB⟩
  replace H0 := Lib.hid (H0.out.below hB)
  clear HC hB C4 x0 x1 x2 y0 y1 y2
  have ha9 : (a == a) = true := by simp
  have hc9 : (c == c) = true := by simp
  go_wp2_with fail
  refine (dof_nat 1 (by decide) false 1 0 _ H0.out.2.2.2.2.1 rfl).mono ?_
  rintro e' w5 ⟨A5, m5, c5, us, rfl, hm5, hl5, hb5, hv5, hB5⟩
  replace H0 := Lib.hid ((H0.out.below hB5).below (below1 _ (.cells #[.bool false, .slice A5 m5 c5, .int .i64 0] 30)))
  have HO := Lib.hid (Bd.new w5 30 false A5 m5 c5 0)
  have HL := Lib.hid (hl5.alloc (.cells #[.bool false, .slice A5 m5 c5, .int .i64 0] 30))
  rw [← hv5] at C5 C6 hcm
  clear hl5 hb5 hB5
  have HC := Lib.hid (ratcmp_l u 0 false (some ⟨w1.heap.size, 0, none⟩) 1 1 [m] e (p : Int) false A5 m5 c5 us 0 1 _ H0.out.2.2.1 HL.out (by decide) (by omega) H0.out.2.2.2.2.1 (by omega) (by omega) (by decide) (by decide) C5)
  have x0 := H0.out.1.c0
  have x1 := H0.out.1.c1
  have x2 := H0.out.1.c2
  have z0 := HO.out.c0
  have z1 := HO.out.c1
  have z2 := HO.out.c2
  go_wp2_with fail
  refine HC.out.mono ?_
  rintro e' v0 ⟨rfl, hB⟩
  replace H0 := Lib.hid (H0.out.below hB)
  replace HO := Lib.hid (HO.out.below hB)
  replace HL := Lib.hid (HL.out.below hB)
  clear HC hB C5 x0 x1 x2 z0 z1 z2
  have HC := Lib.hid (ratcmp_l v 0 false (some ⟨w1.heap.size, 0, none⟩) 1 1 [m] e (-(p : Int)) false A5 m5 c5 us 0 1 _ H0.out.2.2.1 HL.out (by decide) (by omega) H0.out.2.2.2.2.1 (by omega) (by omega) (by decide) (by decide) C6)
  have x0 := H0.out.1.c0
  have x1 := H0.out.1.c1
  have x2 := H0.out.1.c2
  have z0 := HO.out.c0
  have z1 := HO.out.c1
  have z2 := HO.out.c2
  go_wp2_with fail
  refine HC.out.mono ?_
  rintro e' v1 ⟨rfl, hB⟩
  replace H0 := Lib.hid (H0.out.below hB)
  replace HO := Lib.hid (HO.out.below hB)
  replace HL := Lib.hid (HL.out.below hB)
  clear HC hB C6 x0 x1 x2 z0 z1 z2
  rw [← V1.out] at hcm
  have HC := Lib.hid (dcmp_l u false (some ⟨w1.heap.size, 0, none⟩) 1 1 [m] e false A5 m5 c5 us 0 _ H0.out.2.2.1 HL.out (by decide) (by omega) H0.out.2.2.2.2.1 hcm)
  have x0 := H0.out.1.c0
  have x1 := H0.out.1.c1
  have x2 := H0.out.1.c2
  have z0 := HO.out.c0
  have z1 := HO.out.c1
  have z2 := HO.out.c2
  have hu9 : (u == u) = true := by simp
  go_wp2_with fail
  refine HC.out.mono ?_
  rintro e' w9 ⟨rfl, hB⟩
  have Hfin := Lib.hid (H0.out.below hB).2.2.2.2.2
  clear HC hB H0 HO HL x0 x1 x2 z0 z1 z2 hcm
  go_wp2
  go_ret
  exact ⟨rfl, Hfin.out⟩

theorem walk_ratioTurned (m n i k e f : Int) (w : World) (hT : Tab w) (hm1 : 0 ≤ m) (hm2 : m ≤ 18446744073709551615) (hn1 : 0 ≤ n) (hn2 : n ≤ 18446744073709551615) (hi1 : 0 ≤ i) (hi2 : i ≤ 255) (hk1 : 0 ≤ k) (hk2 : k ≤ 255) (he1 : -128 ≤ e) (he2 : e ≤ 127) (hf1 : -128 ≤ f) (hf2 : f ≤ 127) :
    Calls Tryd.prog 6 #[.int .u64 m, .int .u64 n, .int .u8 i, .int .u8 k, .int .i8 e, .int .i8 f] w fun e w' => e = .returned (.bool true) ∧ Below w.heap.size w w' := by
  obtain ⟨m, rfl⟩ := Int.eq_ofNat_of_zero_le hm1
  obtain ⟨n, rfl⟩ := Int.eq_ofNat_of_zero_le hn1
  obtain ⟨i, rfl⟩ := Int.eq_ofNat_of_zero_le hi1
  obtain ⟨k, rfl⟩ := Int.eq_ofNat_of_zero_le hk1
  by_cases h : m = 0 ∨ n = 0
  · exact turned_nil m n i k e f w hT h
  · exact turned_any m n i k e f w hT (by omega) (by omega) (by omega) (by omega) (by omega) (by omega) he1 he2 hf1 hf2
end Go.Proofs.YteflihpnhgicfaaDoor
