/- The walks of exact.Is and Of. -/
import Derived.Test.YtmmeejofepmgaaaDoorExPwr
namespace Go.Proofs.YtmmeejofepmgaaaDoor
open Go.RowKit

set_option maxHeartbeats 1000000 in
theorem is_meets : IsMeets := by
  intro g A n c xs e1 M K k B m d ys e2 w hA hB hn hm hT hM1 hM2 hK1 hK2
  obtain ⟨⟨v, r⟩, hv⟩ : ∃ z, cmpR (mk g (val xs) e1) M (mk k (val ys) e2) K = z := ⟨_, rfl⟩
  have a1 := below1 w (.cells #[.bool g, .slice A n c, .int .i64 e1] 35)
  have a2 := a1.trans ((below1 (w.alloc (.cells #[.bool g, .slice A n c, .int .i64 e1] 35)) (.cells #[.int .i64 M, .int .i64 K] 32)).mono a1.size)
  have a3 := a2.trans ((below1 ((w.alloc (.cells #[.bool g, .slice A n c, .int .i64 e1] 35)).alloc (.cells #[.int .i64 M, .int .i64 K] 32)) (.cells #[.bool k, .slice B m d, .int .i64 e2] 35)).mono a2.size)
  have H1 : Hid (∀ u, Calls Tryd.prog 44 #[.int .i64 M] u fun e w' => e = .returned (.bool true) ∧ u = w') := fun u => near_yes M u hM1 hM2
  have H2 : Hid (∀ u, Calls Tryd.prog 44 #[.int .i64 K] u fun e w' => e = .returned (.bool true) ∧ u = w') := fun u => near_yes K u hK1 hK2
  have H3 := Lib.hid (ratcmp_l v r g A n c xs e1 M k B m d ys e2 K _ (hA.below a3) (hB.below a3) hn hm (hT.below a3) (by omega) (by omega) (by omega) (by omega) hv)
  have HS := Lib.hid a3
  have HV := Lib.hid hv
  obtain ⟨b, hb⟩ : ∃ b, (r == 0 && v == 0) = b := ⟨_, rfl⟩
  clear a1 a2 a3 hA hB hT hv hn hm hM1 hM2 hK1 hK2
  go_enter Tryd.func21, Tryd.ntmps21
  go_wp2_with fail
  refine (H1.out _).mono ?_
  rintro e w' ⟨rfl, rfl⟩
  go_wp2_with fail
  refine (H2.out _).mono ?_
  rintro e w' ⟨rfl, rfl⟩
  go_wp2_with fail
  refine H3.out.mono ?_
  rintro e w1 ⟨rfl, hB1⟩
  have Hfin := Lib.hid (HS.out.trans (hB1.mono HS.out.size))
  clear H1 H2 H3 HS hB1
  by_cases hr : r = 0
  · subst hr
    have c1 : (v == 0) = b := by rw [← hb]; simp
    have HR : Hid (b = decide (v = 0)) := by show _ = _; rw [← c1]; by_cases hv0 : v = 0 <;> simp [hv0]
    clear hb
    go_wp2
    go_ret2
    exact ⟨_, v, 0, rfl, Hfin.out, HV.out, fun _ => HR.out⟩
  · have c0 : (r == 0) = false := beq_no hr
    obtain rfl : false = b := by rw [← hb, c0]; rfl
    have HR := Lib.hid hr
    clear hb hr
    go_wp2
    go_ret2
    exact ⟨_, v, r, rfl, Hfin.out, HV.out, fun h => absurd h HR.out⟩

set_option maxHeartbeats 4000000 in
set_option maxRecDepth 20000 in
theorem of_meets : OfMeets := by
  intro g A n c xs e0 w hA hn hT
  have a1 := below1 w (.cells #[.bool g, .slice A n c, .int .i64 e0] 35)
  have a2 := a1.trans ((below1 (w.alloc (.cells #[.bool g, .slice A n c, .int .i64 e0] 35)) (.cells #[.int .i64 0, .int .i64 0] 32)).mono a1.size)
  have b1 := (Bd.new w 35 g A n c e0).alloc (.cells #[.int .i64 0, .int .i64 0] 32)
  have b2 := Qx.new (w.alloc (.cells #[.bool g, .slice A n c, .int .i64 e0] 35)) 0 0
  rw [World.size_alloc] at b2
  have h1 := dbare_any g A n c xs e0 _ (hA.below a2) (by omega) (hT.below a2)
  obtain ⟨o, ho⟩ : ∃ o, mk g (val xs) e0 = o := ⟨_, rfl⟩
  rw [ho] at h1 ⊢
  have HO := Lib.hid ho
  have H1 := Lib.hid h1
  have HB := Lib.hid b1
  have HQ := Lib.hid b2
  have HS := Lib.hid a2
  clear a1 a2 b1 b2 ho h1 hA hT
  go_enter Tryd.func8, Tryd.ntmps8
  go_wp2_with fail
  refine H1.out.mono ?_
  rintro e w1 ⟨g1, A1, m1, c1, zs, E1, r1, rfl, hm1, hl1, hb1, his1, hB1⟩
  have k1 := HB.out.below hB1
  have k2 := HQ.out.below hB1
  have x0 := k1.c0
  have x1 := k1.c1
  have x2 := k1.c2
  have xf := k1.fz
  have Hp := Lib.hid (k1.put g1 A1 m1 c1 E1)
  have HL := Lib.hid (k1.lim hl1 g1 A1 m1 c1 E1)
  have HS1 := Lib.hid (below_put (HS.out.trans (hB1.mono HS.out.size)) (Nat.le_refl _) g1 A1 m1 c1 E1)
  have hq2 : Qx (World.put w1 w.heap.size g1 A1 m1 c1 E1) (w.heap.size + 1) 0 0 := by
    unfold Qx; rw [put_heap _ _ _ _ _ _ _ _ (by omega)]; exact k2
  have HQ2 := Lib.hid hq2
  have y0 := hq2.c0
  have y1 := hq2.c1
  have yf := hq2.fz
  clear k1 k2 hq2 hl1 hB1 H1 HB HS HQ
  cases o with
  | none =>
    obtain ⟨rfl, rfl, hz, rfl⟩ := his1
    have HI : Hid (OfIs none 0 0 false) := ⟨rfl, rfl, rfl⟩
    have Hb := Lib.hid (((HS1.out).setCell (p := ⟨w.heap.size + 1, 0, none⟩) (Nat.le_succ _) (.int .i64 0)).setCell (p := ⟨w.heap.size + 1, 1, none⟩) (Nat.le_succ _) (.int .i64 0))
    clear Hp HL hz HO HQ2 HS1
    go_wp2
    exact bodyPost_ret (v := .tuple #[.agg #[.int .i64 0, .int .i64 0], .bool false]) (by simp [results, Tryd.results8, go_sem, y0, y1]) rfl ⟨0, 0, false, rfl, Hb.out, HI.out⟩
  | some d =>
    obtain ⟨od, o1, o2⟩ := mk_odd_of HO.out
    obtain ⟨dg, dV, dE⟩ := d
    obtain ⟨rfl, hg1, hz, hE1⟩ := his1
    simp only at hg1 hz hE1 o1 o2
    subst hg1 hE1
    have z0 := Hp.out.c0
    have z1 := Hp.out.c1
    have z2 := Hp.out.c2
    obtain ⟨b, hb⟩ : ∃ b, blen dV = b := ⟨_, rfl⟩
    have hbl := HL.out.blen_le
    rw [hz, hb] at hbl
    have HB : Hid (∀ u, Below (World.put w1 w.heap.size g1 A1 m1 c1 E1).heap.size (World.put w1 w.heap.size g1 A1 m1 c1 E1) u → Calls Tryd.prog 28 #[.slice A1 m1 c1] u fun e w' => e = .returned (.int .i64 (b : Int)) ∧ u = w') := fun u hu => bits_l b A1 m1 c1 zs u (HL.out.below hu) (by omega) (by show _ = _; rw [hz]; exact hb)
    obtain ⟨u, hu⟩ : ∃ u : Nat, max E1 0 = (u : Int) := ⟨E1.toNat, by omega⟩
    obtain ⟨t, ht⟩ : ∃ t : Nat, max (-E1) 0 = (t : Int) := ⟨(-E1).toNat, by omega⟩
    have hu9 : u ≤ 1073741824 := by omega
    have ht9 : t ≤ 1073741824 := by omega
    obtain ⟨B, hB⟩ : ∃ B, b + u = B := ⟨_, rfl⟩
    have hB' : (b : Int) + (u : Int) = (B : Int) := by omega
    have hB9 : B ≤ 10000000000 := by omega
    have e1 : -1200000000 ≤ E1 := by omega
    have e2 : E1 ≤ 1200000000 := by omega
    have HS2 : Hid (∀ k M K, Below w.heap.size w ((((World.put w1 w.heap.size g1 A1 m1 c1 E1).drewN k).setCell ⟨w.heap.size + 1, 0, none⟩ M).setCell ⟨w.heap.size + 1, 1, none⟩ K)) := fun k M K => (((below_drewN HS1.out k)).setCell (p := ⟨w.heap.size + 1, 0, none⟩) (Nat.le_succ _) M).setCell (p := ⟨w.heap.size + 1, 1, none⟩) (Nat.le_succ _) K
    by_cases hno : 62 < B ∨ 62 < t
    · have HI : Hid (OfIs (some ⟨g1, dV, E1⟩) 0 0 false) := by
        have hv0 : dV ≠ 0 := fun h => by
          rcases od with ⟨m, hm⟩ | h9
          · simp only at hm; omega
          · injection h9 with _ _ h8
            subst h8
            subst h
            have : b = 0 := by rw [← hb]; rfl
            omega
        have hof : ofS ⟨g1, dV, E1⟩ = (0, 0, false) := by
          unfold ofS
          simp only
          rw [if_neg hv0, hb]
          by_cases h0 : 0 ≤ E1
          · rw [if_pos h0, if_neg (show ¬ (b : Int) + E1 ≤ 62 by omega)]
          · rw [if_neg h0, if_neg (show ¬ (b ≤ 62 ∧ -62 ≤ E1) by omega)]
        show OfIs _ _ _ _
        unfold OfIs
        dsimp only
        rw [hof, if_neg (by decide)]
        exact ⟨rfl, rfl, rfl⟩
      clear hB hb hbl HO hz od o1 o2
      by_cases h1 : 62 < B
      · have b1 : decide (62 < B) = true := decide_eq_true h1
        have b2 : decide ((62 : Int) < (B : Int)) = true := decide_eq_true (by omega)
        clear h1 hno
        go_wp2_with fail
        go_region
        go_wp2_with fail
        refine (HB.out _ (below_drewN (Below.refl _ _) _)).mono ?_
        rintro e w' ⟨rfl, rfl⟩
        go_wp2
        exact bodyPost_ret (v := .tuple #[.agg #[.int .i64 0, .int .i64 0], .bool false]) (by simp [results, Tryd.results8, go_sem, y0, y1]) rfl ⟨0, 0, false, rfl, (HS2.out _ _ _), HI.out⟩
      · have b1 : decide (62 < B) = false := decide_eq_false h1
        have b2 : decide ((62 : Int) < (B : Int)) = false := decide_eq_false (by omega)
        have b3 : decide (62 < t) = true := decide_eq_true (by omega)
        have b4 : decide ((62 : Int) < (t : Int)) = true := decide_eq_true (by omega)
        clear h1 hno
        go_wp2_with fail
        go_region
        go_wp2_with fail
        refine (HB.out _ (below_drewN (Below.refl _ _) _)).mono ?_
        rintro e w' ⟨rfl, rfl⟩
        go_wp2
        exact bodyPost_ret (v := .tuple #[.agg #[.int .i64 0, .int .i64 0], .bool false]) (by simp [results, Tryd.results8, go_sem, y0, y1]) rfl ⟨0, 0, false, rfl, (HS2.out _ _ _), HI.out⟩
    · have b1 : decide (62 < B) = false := decide_eq_false (by omega)
      have b2 : decide ((62 : Int) < (B : Int)) = false := decide_eq_false (by omega)
      have b3 : decide (62 < t) = false := decide_eq_false (by omega)
      have b4 : decide ((62 : Int) < (t : Int)) = false := decide_eq_false (by omega)
      by_cases hv0 : dV = 0
      · obtain ⟨rfl, rfl⟩ : g1 = false ∧ E1 = 0 := by
          rcases od with ⟨m, hm⟩ | h9
          · simp only at hm; omega
          · injection h9 with h7 _ h8
            exact ⟨h7, h8⟩
        have HI : Hid (OfIs (some ⟨false, dV, 0⟩) 0 1 true) := by
          have hof : ofS ⟨false, dV, 0⟩ = (0, 0, true) := by
            unfold ofS
            simp only
            rw [if_pos hv0]
          show OfIs _ _ _ _
          unfold OfIs
          dsimp only
          rw [hof, if_pos rfl]
          exact ⟨rfl, rfl, rfl⟩
        obtain rfl : b = 0 := by rw [← hb, hv0]; rfl
        obtain rfl : u = 0 := by omega
        obtain rfl : t = 0 := by omega
        obtain rfl : B = 0 := by omega
        clear hB hb hbl HO hz od o1 o2 hno hv0 hB' hu ht e1 e2 hu9 ht9 hB9
        go_wp2_with fail
        go_region
        go_wp2_with fail
        refine (HB.out _ (below_drewN (Below.refl _ _) _)).mono ?_
        rintro e w' ⟨rfl, rfl⟩
        go_wp2
        exact bodyPost_ret (v := .tuple #[.agg #[.int .i64 0, .int .i64 1], .bool true]) (by simp [results, Tryd.results8, go_sem, y0, y1]) rfl ⟨0, 1, true, rfl, (HS2.out _ _ _), HI.out⟩
      · have hodd : dV % 2 = 1 := by
          rcases od with ⟨m, hm⟩ | h9
          · simp only at hm; omega
          · injection h9 with _ h8 _
            exact absurd h8 hv0
        have hb0 := blen_pos hv0
        rw [hb] at hb0
        have n0 : ((b : Int) == 0) = false := beq_no (by omega)
        have hlt : dV < 2 ^ b := by rw [← hb]; exact lt_blen dV
        have hlt2 : dV * 2 ^ u < 2 ^ 62 := by
          have h3 : dV * 2 ^ u < 2 ^ (b + u) := by rw [Nat.pow_add]; exact Nat.mul_lt_mul_of_pos_right hlt (Nat.two_pow_pos _)
          exact Nat.lt_of_lt_of_le h3 (Nat.pow_le_pow_right (by decide) (by omega))
        have hd9 : dV < 4611686018427387904 := by
          have h3 : dV * 1 ≤ dV * 2 ^ u := Nat.mul_le_mul_left _ (Nat.two_pow_pos _)
          have h4 : dV * 2 ^ u < 4611686018427387904 := hlt2
          omega
        obtain ⟨S, hS⟩ : ∃ S, dV * 2 ^ u = S := ⟨_, rfl⟩
        rw [hS] at hlt2
        have hS9 : S < 9223372036854775808 := Nat.lt_of_lt_of_le hlt2 (by decide)
        have eS : (dV : Int) * 2 ^ u = (S : Int) := by rw [← hS]; simp
        obtain ⟨T, hT⟩ : ∃ T, 2 ^ t = T := ⟨_, rfl⟩
        have eT : (2 : Int) ^ t = (T : Int) := by rw [← hT]; simp
        have hT9 : T < 9223372036854775808 := by rw [← hT]; exact Nat.lt_of_le_of_lt (Nat.pow_le_pow_right (n := 2) (by decide) (show t ≤ 62 by omega)) (by decide)
        have hd8 : dV < 18446744073709551616 := Nat.lt_of_lt_of_le hd9 (by decide)
        have hu6 : u < 64 := by omega
        have ht6 : t < 64 := by omega
        have HI : Hid (OfIs (some ⟨g1, dV, E1⟩) (if g1 then -(S : Int) else (S : Int)) (T : Int) true) := by
          have hof : ofS ⟨g1, dV, E1⟩ = (S, t, true) := by
            unfold ofS
            simp only
            rw [if_neg hv0, hb]
            by_cases h0 : 0 ≤ E1
            · rw [if_pos h0, if_pos (show (b : Int) + E1 ≤ 62 by omega), show E1.toNat = u by omega, hS, show t = 0 by omega]
            · rw [if_neg h0, if_pos (show b ≤ 62 ∧ -62 ≤ E1 by omega), show (-E1).toNat = t by omega, ← hS, show u = 0 by omega, Nat.pow_zero, Nat.mul_one]
          show OfIs _ _ _ _
          unfold OfIs
          dsimp only
          rw [hof, if_pos rfl]
          exact ⟨rfl, rfl, by rw [← hT]; simp⟩
        obtain rfl : zs = [dV] := bare_eq HL.out.words (Words.one (by omega)) hb1 (bare_one hv0) (hz.trans (by simp [val]))
        obtain rfl : m1 = 1 := by rw [← HL.out.len]; rfl
        obtain ⟨p, o, rfl, hp, hc⟩ := HL.out.at_ (by decide)
        have hc0 := hc 0 (by decide)
        rw [Nat.add_zero] at hc0
        have hc1 : (World.put w1 w.heap.size g1 (some ⟨p, o, none⟩) 1 c1 E1).cell? ⟨p, o, none⟩ = some (.int .u64 (dV : Int)) := hc0
        clear hB hb hbl HO hz od o1 o2 hno hv0 hS hT hlt hlt2 hodd hb0 hc hc0 hp hd9
        cases g1 with
        | false =>
          have HJ : Hid (OfIs (some ⟨false, dV, E1⟩) ((S : Int)) (T : Int) true) := by have h := HI.out; rw [if_neg (by decide)] at h; exact h
          clear HI
          go_wp2_with fail
          go_region
          go_wp2_with fail
          refine (HB.out _ (below_drewN (Below.refl _ _) _)).mono ?_
          rintro e w' ⟨rfl, rfl⟩
          go_wp2
          exact bodyPost_ret (v := .tuple #[.agg #[.int .i64 ((S : Int)), .int .i64 (T : Int)], .bool true]) (by simp [results, Tryd.results8, go_sem, y0, y1]) rfl ⟨(S : Int), T, true, rfl, (HS2.out _ _ _), HJ.out⟩
        | true =>
          have HJ : Hid (OfIs (some ⟨true, dV, E1⟩) (-(S : Int)) (T : Int) true) := by have h := HI.out; rw [if_pos rfl] at h; exact h
          clear HI
          go_wp2_with fail
          go_region
          go_wp2_with fail
          refine (HB.out _ (below_drewN (Below.refl _ _) _)).mono ?_
          rintro e w' ⟨rfl, rfl⟩
          go_wp2
          exact bodyPost_ret (v := .tuple #[.agg #[.int .i64 (-(S : Int)), .int .i64 (T : Int)], .bool true]) (by simp [results, Tryd.results8, go_sem, y0, y1]) rfl ⟨-(S : Int), T, true, rfl, (HS2.out _ _ _), HJ.out⟩
end Go.Proofs.YtmmeejofepmgaaaDoor
