/- The walk of ratio.Cmp. -/
import Derived.Test.YteflihpnhgicfaaDoorRtAbove
import Derived.Test.YteflihpnhgicfaaDoorRtInv
namespace Go.Proofs.YteflihpnhgicfaaDoor
open Go.RowKit

/-- What Cmp tells of what Bare tells: the answer and the error. -/
def cmpR (o1 : Option Dy) (m : Int) (o2 : Option Dy) (k : Int) : Int × Int :=
  match o1, o2 with
  | some x, some b => if 0 < sgD x.neg x.V ∧ 0 < sgD b.neg b.V ∧ 1 ≤ k then (if fitB x.V x.e m && fitB b.V b.e k then (ratC x.V x.e m b.V b.e k.toNat, 0) else (0, 2)) else (0, 1)
  | _, _ => (0, 1)
theorem sgD_above {g : Bool} {V : Nat} (h : 0 < sgD g V) : V ≠ 0 ∧ g = false := by
  unfold sgD at h
  split at h
  · exact absurd h (by decide)
  · cases g
    · exact ⟨by assumption, rfl⟩
    · exact absurd h (by decide)

theorem power_pos (V : Nat) (E : Int) (A : Option Addr) (n c : Nat) (zs : List Nat) (m : Nat) (w : World) (hA : Lim w A n c zs) (hn : n ≤ 1000000) (hT : Tab w) (hz : val zs = V) (hodd : V % 2 = 1) (hm : m ≤ 9223372036854775807) (hf1 : blen V * m ≤ 60000) (hf2 : E.natAbs * m ≤ 60000) :
    Calls Tryd.prog 31 #[.agg #[.bool false, .slice A n c, .int .i64 E], .int .i64 (m : Int)] w (Tells1 w false (V ^ m) 998 (E * m)) := by
  refine (power_any ⟨false, V, E⟩ A n c zs m w hA hn hT hz (Or.inl ⟨V / 2, by show V = _; omega⟩) hm hf1 hf2).mono ?_
  rintro e w' ⟨A1, m1, c1, us, he, hm1, hl, hb, hv, hB⟩
  refine ⟨A1, m1, c1, us, he, ?_, hl, hb, hv, hB⟩
  have h1 : blen (val us) ≤ 60001 := by rw [hv]; exact blen_pow_fit hf1
  rw [← hl.len]
  exact len_of_blen hl.words hb h1 (by decide)

section
variable {w0 : World} {b1 : Nat} {g : Bool} {A : Option Addr} {n c : Nat} {xs : List Nat} {e1 : Int} {b2 : Nat} {k : Bool} {B : Option Addr} {m d : Nat} {ys : List Nat} {e2 : Int} {w : World}
theorem Held2.turn1 (h : Held2 w0 b1 g A n c xs e1 b2 k B m d ys e2 w) (hne : b2 ≠ b1) (hb : w0.heap.size ≤ b1) {A' : Option Addr} {n' c' : Nat} {xs' : List Nat} (hl : Lim w A' n' c' xs') (g' : Bool) (e' : Int) : Held2 w0 b1 g' A' n' c' xs' e' b2 k B m d ys e2 (World.put w b1 g' A' n' c' e') :=
  ⟨h.1.put _ _ _ _ _, h.2.1.other hne _ _ _ _ _, h.1.lim hl _ _ _ _ _, h.1.lim h.2.2.2.1 _ _ _ _ _, h.1.tab h.2.2.2.2.1 _ _ _ _ _, below_put h.2.2.2.2.2 hb _ _ _ _ _⟩
theorem Held2.turn2 (h : Held2 w0 b1 g A n c xs e1 b2 k B m d ys e2 w) (hne : b1 ≠ b2) (hb : w0.heap.size ≤ b2) {A' : Option Addr} {n' c' : Nat} {xs' : List Nat} (hl : Lim w A' n' c' xs') (g' : Bool) (e' : Int) : Held2 w0 b1 g A n c xs e1 b2 g' A' n' c' xs' e' (World.put w b2 g' A' n' c' e') :=
  ⟨h.1.other hne _ _ _ _ _, h.2.1.put _ _ _ _ _, h.2.1.lim h.2.2.1 _ _ _ _ _, h.2.1.lim hl _ _ _ _ _, h.2.1.tab h.2.2.2.2.1 _ _ _ _ _, below_put h.2.2.2.2.2 hb _ _ _ _ _⟩
theorem Held2.old (h : Held2 w0 b1 g A n c xs e1 b2 k B m d ys e2 w) : Below w0.heap.size w0 w := h.2.2.2.2.2
theorem Held2.lim1 (h : Held2 w0 b1 g A n c xs e1 b2 k B m d ys e2 w) : Lim w A n c xs := h.2.2.1
theorem Held2.lim2 (h : Held2 w0 b1 g A n c xs e1 b2 k B m d ys e2 w) : Lim w B m d ys := h.2.2.2.1
theorem Held2.tab_ (h : Held2 w0 b1 g A n c xs e1 b2 k B m d ys e2 w) : Tab w := h.2.2.2.2.1
end

set_option maxHeartbeats 4000000 in
set_option maxRecDepth 20000 in
theorem ratcmp_l (v r : Int) (g : Bool) (A : Option Addr) (n c : Nat) (xs : List Nat) (e1 : Int) (i : Int) (k : Bool) (B : Option Addr) (m d : Nat) (ys : List Nat) (e2 : Int) (j : Int) (w : World) (hA : Lim w A n c xs) (hB : Lim w B m d ys) (hn : n ≤ 1000000) (hm : m ≤ 1000000) (hT : Tab w)
    (hi1 : -9223372036854775808 ≤ i) (hi2 : i ≤ 9223372036854775807) (hj1 : -9223372036854775808 ≤ j) (hj2 : j ≤ 9223372036854775807) (hv : Hid (cmpR (mk g (val xs) e1) i (mk k (val ys) e2) j = (v, r))) :
    Calls Tryd.prog 17 #[.agg #[.bool g, .slice A n c, .int .i64 e1], .int .i64 i, .agg #[.bool k, .slice B m d, .int .i64 e2], .int .i64 j] w fun e w' => e = .returned (.tuple #[.int .i64 v, .int .i64 r]) ∧ Below w.heap.size w w' := by
  have h0 := Held2.start w g A n c xs e1 k B m d ys e2 hA hB hT
  obtain ⟨o1, ho1⟩ : ∃ o, mk g (val xs) e1 = o := ⟨_, rfl⟩
  obtain ⟨o2, ho2⟩ : ∃ o, mk k (val ys) e2 = o := ⟨_, rfl⟩
  rw [ho1, ho2] at hv
  have HA1 := Lib.hid (above_any o1 g A n c xs e1 _ h0.2.2.1 (by omega) h0.2.2.2.2.1 ho1)
  have HA2 : Hid (∀ u, Lim u B m d ys → Tab u → Calls Tryd.prog 36 #[.agg #[.bool k, .slice B m d, .int .i64 e2]] u (Above u o2 m)) := fun u h1 h2 => above_any o2 k B m d ys e2 u h1 (by omega) h2 ho2
  have H0 := Lib.hid h0
  have HO1 := Lib.hid ho1
  have HO2 := Lib.hid ho2
  clear hA hB hT h0 ho1 ho2
  go_enter Tryd.func17, Tryd.ntmps17
  go_wp2_with fail
  refine HA1.out.mono ?_
  rintro e w1 ⟨g1, A1, m1, c1, zs, E1, f1, rfl, hm1, hl1, hb1, his1, hB1⟩
  have k1 := H0.out.below hB1
  have x0 := k1.1.c0
  have x1 := k1.1.c1
  have x2 := k1.1.c2
  have xf := k1.1.fz
  replace H0 := Lib.hid (k1.turn1 (by omega) (by omega) hl1 g1 E1)
  have y0 := H0.out.2.1.c0
  have y1 := H0.out.2.1.c1
  have y2 := H0.out.2.1.c2
  have Hi1 := Lib.hid his1
  clear k1 hl1 hb1 his1 hB1 HA1
  go_wp2_with fail
  refine (HA2.out _ H0.out.lim2 H0.out.tab_).mono ?_
  rintro e w2 ⟨g2, A2, m2, c2, us, E2, f2, rfl, hm2, hl2, hb2, his2, hB2⟩
  clear x0 x1 x2 xf y0 y1 y2
  have k2 := H0.out.below hB2
  have x0 := k2.2.1.c0
  have x1 := k2.2.1.c1
  have x2 := k2.2.1.c2
  have xf := k2.2.1.fz
  replace H0 := Lib.hid (k2.turn2 (by omega) (by omega) hl2 g2 E2)
  have Hi2 := Lib.hid his2
  clear k2 hl2 hb2 his2 hB2 HA2
  by_cases hok : f1 = true ∧ f2 = true ∧ 1 ≤ j
  case neg =>
    have hvr : (v, r) = (0, 1) := by
      rw [← hv.out]
      have q1 := Hi1.out
      have q2 := Hi2.out
      cases o1 with
      | none => rfl
      | some x =>
        cases o2 with
        | none => rfl
        | some b =>
          refine if_neg fun h9 => hok ⟨?_, ?_, h9.2.2⟩
          · rw [q1.1]; exact decide_eq_true h9.1
          · rw [q2.1]; exact decide_eq_true h9.2.1
    obtain ⟨rfl, rfl⟩ : v = 0 ∧ r = 1 := by injection hvr with a b; exact ⟨a, b⟩
    have Hfin := Lib.hid H0.out.old
    have g3 : f1 = false ∨ (f1 = true ∧ f2 = false) ∨ (f1 = true ∧ f2 = true ∧ decide (j < 1) = true) := by
      cases f1
      · exact Or.inl rfl
      · cases f2
        · exact Or.inr (Or.inl ⟨rfl, rfl⟩)
        · exact Or.inr (Or.inr ⟨rfl, rfl, decide_eq_true (by have : ¬ 1 ≤ j := fun h => hok ⟨rfl, rfl, h⟩; omega)⟩)
    clear hok hvr hv H0 Hi1 Hi2 HO1 HO2
    rcases g3 with rfl | ⟨rfl, rfl⟩ | ⟨rfl, rfl, b3⟩
    all_goals
      go_wp2
      go_ret2
      exact ⟨rfl, Hfin.out⟩
  case pos =>
    obtain ⟨rfl, rfl, hj⟩ := hok
    obtain ⟨jj, rfl⟩ : ∃ jj : Nat, j = (jj : Int) := ⟨j.toNat, by omega⟩
    have hp1 : ∃ d, mk g (val xs) e1 = some d ∧ o1 = some d ∧ 0 < sgD d.neg d.V ∧ g1 = d.neg ∧ val zs = d.V ∧ E1 = d.e := by
      have q1 := Hi1.out
      have q3 := HO1.out
      cases o1 with
      | none => exact absurd (show true = false from q1) (by decide)
      | some x => exact ⟨x, q3, rfl, of_decide_eq_true q1.1.symm, q1.2.1, q1.2.2.1, q1.2.2.2⟩
    have hp2 : ∃ d, mk k (val ys) e2 = some d ∧ o2 = some d ∧ 0 < sgD d.neg d.V ∧ g2 = d.neg ∧ val us = d.V ∧ E2 = d.e := by
      have q1 := Hi2.out
      have q3 := HO2.out
      cases o2 with
      | none => exact absurd (show true = false from q1) (by decide)
      | some x => exact ⟨x, q3, rfl, of_decide_eq_true q1.1.symm, q1.2.1, q1.2.2.1, q1.2.2.2⟩
    obtain ⟨d1, a1, rfl, a2, a3, a4, a5⟩ := hp1
    obtain ⟨d2, b1, rfl, b2, b3, b4, b5⟩ := hp2
    have hv' := hv.out
    unfold cmpR at hv'
    simp only at hv'
    rw [if_pos ⟨a2, b2, hj⟩, Int.toNat_natCast, ← a4, ← b4, ← a5, ← b5] at hv'
    obtain ⟨o1', o1a, o1b⟩ := mk_odd_of a1
    obtain ⟨o2', o2a, o2b⟩ := mk_odd_of b1
    obtain ⟨n1, s1⟩ := sgD_above a2
    obtain ⟨n2, s2⟩ := sgD_above b2
    have od1 : val zs % 2 = 1 := by
      rcases o1' with ⟨q, hq⟩ | hq
      · rw [a4, hq]; omega
      · rw [hq] at n1; exact absurd rfl n1
    have od2 : val us % 2 = 1 := by
      rcases o2' with ⟨q, hq⟩ | hq
      · rw [b4, hq]; omega
      · rw [hq] at n2; exact absurd rfl n2
    rw [← a5] at o1a o1b
    rw [← b5] at o2a o2b
    rw [s1] at a3
    rw [s2] at b3
    subst a3
    subst b3
    obtain ⟨V, hV⟩ : ∃ V, val zs = V := ⟨_, rfl⟩
    obtain ⟨U, hU⟩ : ∃ U, val us = U := ⟨_, rfl⟩
    rw [hV] at od1 hv'
    rw [hU] at od2 hv'
    clear a1 a2 a4 a5 b1 b2 b4 b5 o1' o2' n1 n2 s1 s2 hv Hi1 Hi2 HO1 HO2
    obtain ⟨F1, hF1⟩ : ∃ F, fitB V E1 i = F := ⟨_, rfl⟩
    obtain ⟨F2, hF2⟩ : ∃ F, fitB U E2 (jj : Int) = F := ⟨_, rfl⟩
    rw [hF1, hF2] at hv'
    have HSh1 := Lib.hid (short_l F1 false A1 m1 c1 zs E1 i _ H0.out.lim1 (by omega) o1a o1b hi1 hi2 (by show _ = _; rw [hV]; exact hF1))
    have HSh2 : Hid (∀ u, Held2 w w.heap.size false A1 m1 c1 zs E1 (w.heap.size + 1) false A2 m2 c2 us E2 u → Calls Tryd.prog 30 #[.agg #[.bool false, .slice A2 m2 c2, .int .i64 E2], .int .i64 (jj : Int)] u fun e w' => e = .returned (.bool F2) ∧ Below u.heap.size u w') := fun u hu =>
      short_l F2 false A2 m2 c2 us E2 jj u hu.lim2 (by omega) o2a o2b (by omega) (by omega) (by show _ = _; rw [hU]; exact hF2)
    have z0 := H0.out.1.c0
    have z1 := H0.out.1.c1
    have z2 := H0.out.1.c2
    have b9 : decide ((jj : Int) < 1) = false := decide_eq_false (by omega)
    go_wp2_with fail
    refine HSh1.out.mono ?_
    rintro e w3 ⟨rfl, hB3⟩
    replace H0 := Lib.hid (H0.out.below hB3)
    clear hB3 HSh1 x0 x1 x2 xf z0 z1 z2
    have y0 := H0.out.2.1.c0
    have y1 := H0.out.2.1.c1
    have y2 := H0.out.2.1.c2
    cases F1 with
    | false =>
      obtain ⟨rfl, rfl⟩ : v = 0 ∧ r = 2 := by injection hv' with a b; exact ⟨a.symm, b.symm⟩
      have Hfin := Lib.hid H0.out.old
      clear hv' HSh2 H0 hF1 hF2
      go_wp2
      go_ret2
      exact ⟨rfl, Hfin.out⟩
    | true =>
      go_wp2_with fail
      refine (HSh2.out _ H0.out).mono ?_
      rintro e w4 ⟨rfl, hB4⟩
      replace H0 := Lib.hid (H0.out.below hB4)
      clear hB4 HSh2 y0 y1 y2
      cases F2 with
      | false =>
        obtain ⟨rfl, rfl⟩ : v = 0 ∧ r = 2 := by injection hv' with a b; exact ⟨a.symm, b.symm⟩
        have Hfin := Lib.hid H0.out.old
        clear hv' H0 hF1 hF2
        go_wp2
        go_ret2
        exact ⟨rfl, Hfin.out⟩
      | true =>
        obtain ⟨hv2, rfl⟩ : ratC V E1 i U E2 jj = v ∧ r = 0 := by injection hv' with a b; exact ⟨a, b.symm⟩
        have fit1 : blen V * i.natAbs ≤ 60000 ∧ E1.natAbs * i.natAbs ≤ 60000 := by
          unfold fitB at hF1
          rw [Bool.and_eq_true] at hF1
          exact ⟨of_decide_eq_true hF1.1, of_decide_eq_true hF1.2⟩
        have fit2 : blen U * jj ≤ 60000 ∧ E2.natAbs * jj ≤ 60000 := by
          unfold fitB at hF2
          rw [Bool.and_eq_true, Int.natAbs_natCast] at hF2
          exact ⟨of_decide_eq_true hF2.1, of_decide_eq_true hF2.2⟩
        have hab2 := abs_mul_le fit2.2
        have HP2 : Hid (∀ u, Held2 w w.heap.size false A1 m1 c1 zs E1 (w.heap.size + 1) false A2 m2 c2 us E2 u → Calls Tryd.prog 31 #[.agg #[.bool false, .slice A2 m2 c2, .int .i64 E2], .int .i64 (jj : Int)] u (Tells1 u false (U ^ jj) 998 (E2 * jj))) := fun u hu =>
          power_pos U E2 A2 m2 c2 us jj u hu.lim2 (by omega) hu.tab_ hU od2 (by omega) fit2.1 fit2.2
        have Q0 : U ^ jj ≠ 0 := fun h9 => by have := odd_pow od2 jj; omega
        obtain ⟨T, hT⟩ : ∃ T, E2 * (jj : Int) = T := ⟨_, rfl⟩
        obtain ⟨Q, hQ⟩ : ∃ Q, U ^ jj = Q := ⟨_, rfl⟩
        rw [hT] at HP2 hab2
        rw [hQ] at HP2 Q0
        have K0 := Lib.hid (H0.out.below (below_drew _))
        by_cases hneg : i < 0
        · have b1 : decide (i < 0) = true := decide_eq_true hneg
          obtain ⟨ii, hii⟩ : ∃ ii : Nat, -i = (ii : Int) := ⟨(-i).toNat, by omega⟩
          have hia : i.natAbs = ii := by omega
          rw [hia] at fit1
          have hab1 := abs_mul_le fit1.2
          have P0 : V ^ ii ≠ 0 := fun h9 => by have := odd_pow od1 ii; omega
          have hii0 : ii ≠ 0 := by omega
          have hbV : 1 ≤ blen V := by
            rcases Nat.eq_zero_or_pos (blen V) with h9 | h9
            · rw [blen_zero_iff.1 h9] at od1; omega
            · exact h9
          have hii9 : ii ≤ 60000 := by
            have := Nat.mul_le_mul_right ii hbV
            omega
          have HP1 : Hid (∀ u, Held2 w w.heap.size false A1 m1 c1 zs E1 (w.heap.size + 1) false A2 m2 c2 us E2 u → Calls Tryd.prog 31 #[.agg #[.bool false, .slice A1 m1 c1, .int .i64 E1], .int .i64 (ii : Int)] u (Tells1 u false (V ^ ii) 998 (E1 * ii))) := fun u hu =>
            power_pos V E1 A1 m1 c1 zs ii u hu.lim1 (by omega) hu.tab_ hV od1 (by omega) fit1.1 fit1.2
          have hv3 : cq 1 0 (V ^ ii * Q) (E1 * ii + T) = v := by
            rw [← hv2, show i = -(ii : Int) by omega, ratC_neg hii0, hQ, hT]
          obtain ⟨S, hS⟩ : ∃ S, E1 * (ii : Int) = S := ⟨_, rfl⟩
          obtain ⟨P, hP⟩ : ∃ P, V ^ ii = P := ⟨_, rfl⟩
          rw [hS] at HP1 hab1 hv3
          rw [hP] at HP1 P0 hv3
          have HI : Hid (∀ u A3 m3 c3 ts A4 m4 c4 rs, Held2 w w.heap.size false A1 m1 c1 zs E1 (w.heap.size + 1) false A2 m2 c2 us E2 u → Lim u A3 m3 c3 ts → val ts = P → m3 ≤ 998 → Lim u A4 m4 c4 rs → val rs = Q → m4 ≤ 998 → Calls Tryd.prog 37 #[.agg #[.bool false, .slice A3 m3 c3, .int .i64 S], .agg #[.bool false, .slice A4 m4 c4, .int .i64 T]] u fun e w' => e = .returned (.int .i64 v) ∧ Below u.heap.size u w') := fun u A3 m3 c3 ts A4 m4 c4 rs hu q1 q2 q3 q4 q5 q6 =>
            inverse_l v false A3 m3 c3 ts S false A4 m4 c4 rs T u q1 q4 q3 q6 hu.tab_ (by rw [q2]; exact P0) (by rw [q5]; exact Q0) (by omega) (by omega) (by omega) (by omega) (by show _ = _; rw [q2, q5]; exact hv3)
          have hwi : IntKind.i64.wrap (ii : Int) = (ii : Int) := by rw [IntKind.wrap_i64]; omega
          clear H0 hv' hv2 hv3 hF1 hF2 fit1 fit2 hab1 hab2 hneg hia P0 Q0 hii0 hii9 hbV hT hQ hS hP od1 od2 hV hU o1a o1b o2a o2b
          go_wp2_with fail
          go_region_held3 (fun w' => Six w' w.heap.size false A1 m1 c1 E1 (w.heap.size + 1) false A2 m2 c2 E2)
            (first | (with_reducible exact K0.out.six) | (with_reducible exact K1.out.six) | (with_reducible exact K2.out.six) | (with_reducible exact K3.out.six))
            (first
              | (go_at_call 31; (with_reducible refine (HP1.out _ K0.out).mono ?_); rintro e w5 ⟨A3, m3, c3, ts, rfl, hm3, hl3, hb3, hv3, hB3⟩; have K1 := Lib.hid (K0.out.below hB3); have L3 := Lib.hid hl3; have V3 := Lib.hid hv3; clear hl3 hb3 hv3 hB3)
              | (go_at_call 31; (with_reducible refine (HP2.out _ K1.out).mono ?_); rintro e w6 ⟨A4, m4, c4, rs, rfl, hm4, hl4, hb4, hv4, hB4⟩; have K2 := Lib.hid (K1.out.below hB4); have L4 := Lib.hid hl4; have V4 := Lib.hid hv4; replace L3 := Lib.hid (L3.out.below hB4); clear hl4 hb4 hv4 hB4)
              | (go_at_call 37; (with_reducible refine (HI.out _ A3 m3 c3 ts A4 m4 c4 rs K2.out L3.out V3.out hm3 L4.out V4.out hm4).mono ?_); rintro e w7 ⟨rfl, hB5⟩; have K3 := Lib.hid (K2.out.below hB5); clear hB5))
          all_goals (
            have Hfin := Lib.hid K3.out.old
            clear K0 K1 K2 K3 HP1 HP2 HI L3 L4 V3 V4
            go_wp2_with fail
            go_ret2
            exact ⟨rfl, Hfin.out⟩)
        · have b1 : decide (i < 0) = false := decide_eq_false hneg
          obtain ⟨ii, rfl⟩ : ∃ ii : Nat, i = (ii : Int) := ⟨i.toNat, by omega⟩
          rw [Int.natAbs_natCast] at fit1
          have hab1 := abs_mul_le fit1.2
          have HP1 : Hid (∀ u, Held2 w w.heap.size false A1 m1 c1 zs E1 (w.heap.size + 1) false A2 m2 c2 us E2 u → Calls Tryd.prog 31 #[.agg #[.bool false, .slice A1 m1 c1, .int .i64 E1], .int .i64 (ii : Int)] u (Tells1 u false (V ^ ii) 998 (E1 * ii))) := fun u hu =>
            power_pos V E1 A1 m1 c1 zs ii u hu.lim1 (by omega) hu.tab_ hV od1 (by omega) fit1.1 fit1.2
          have hv3 : cq (V ^ ii) (E1 * ii) Q T = v := by rw [← hv2, ratC_pos, hQ, hT]
          obtain ⟨S, hS⟩ : ∃ S, E1 * (ii : Int) = S := ⟨_, rfl⟩
          obtain ⟨P, hP⟩ : ∃ P, V ^ ii = P := ⟨_, rfl⟩
          rw [hS] at HP1 hab1 hv3
          rw [hP] at HP1 hv3
          have HI : Hid (∀ u A3 m3 c3 ts A4 m4 c4 rs, Held2 w w.heap.size false A1 m1 c1 zs E1 (w.heap.size + 1) false A2 m2 c2 us E2 u → Lim u A3 m3 c3 ts → val ts = P → m3 ≤ 998 → Lim u A4 m4 c4 rs → val rs = Q → m4 ≤ 998 → Calls Tryd.prog 24 #[.agg #[.bool false, .slice A3 m3 c3, .int .i64 S], .agg #[.bool false, .slice A4 m4 c4, .int .i64 T]] u fun e w' => e = .returned (.int .i64 v) ∧ Below u.heap.size u w') := fun u A3 m3 c3 ts A4 m4 c4 rs hu q1 q2 q3 q4 q5 q6 =>
            dcmp_l v false A3 m3 c3 ts S false A4 m4 c4 rs T u q1 q4 (by omega) (by omega) hu.tab_ (by show _ = _; rw [q2, q5, cq_dw (by omega) (by omega) (by omega) (by omega)]; exact hv3)
          clear H0 hv' hv2 hv3 hF1 hF2 fit1 fit2 hab1 hab2 hneg Q0 hT hQ hS hP od1 od2 hV hU o1a o1b o2a o2b
          go_wp2_with fail
          go_region_held3 (fun w' => Six w' w.heap.size false A1 m1 c1 E1 (w.heap.size + 1) false A2 m2 c2 E2)
            (first | (with_reducible exact K0.out.six) | (with_reducible exact K1.out.six) | (with_reducible exact K2.out.six) | (with_reducible exact K3.out.six))
            (first
              | (go_at_call 31; (with_reducible refine (HP1.out _ K0.out).mono ?_); rintro e w5 ⟨A3, m3, c3, ts, rfl, hm3, hl3, hb3, hv3, hB3⟩; have K1 := Lib.hid (K0.out.below hB3); have L3 := Lib.hid hl3; have V3 := Lib.hid hv3; clear hl3 hb3 hv3 hB3)
              | (go_at_call 31; (with_reducible refine (HP2.out _ K1.out).mono ?_); rintro e w6 ⟨A4, m4, c4, rs, rfl, hm4, hl4, hb4, hv4, hB4⟩; have K2 := Lib.hid (K1.out.below hB4); have L4 := Lib.hid hl4; have V4 := Lib.hid hv4; replace L3 := Lib.hid (L3.out.below hB4); clear hl4 hb4 hv4 hB4)
              | (go_at_call 24; (with_reducible refine (HI.out _ A3 m3 c3 ts A4 m4 c4 rs K2.out L3.out V3.out hm3 L4.out V4.out hm4).mono ?_); rintro e w7 ⟨rfl, hB5⟩; have K3 := Lib.hid (K2.out.below hB5); clear hB5))
          all_goals (
            have Hfin := Lib.hid K3.out.old
            clear K0 K1 K2 K3 HP1 HP2 HI L3 L4 V3 V4
            go_wp2_with fail
            go_ret2
            exact ⟨rfl, Hfin.out⟩)
end Go.Proofs.YteflihpnhgicfaaDoor
