/- The walk of the law RatioRules (written by law_rrules.py). -/
import Derived.Test.YteflihpnhgicfaaDoorRtRuleM
namespace Go.Proofs.YteflihpnhgicfaaDoor
open Go.RowKit

/-- Three dyads of a law in their boxes. -/
def HeldY (w : World) (g : Bool) (A : Option Addr) (n c : Nat) (xs : List Nat) (e1 : Int) (k : Bool) (B : Option Addr) (m d : Nat) (ys : List Nat) (e2 : Int) (h : Bool) (C : Option Addr) (a b : Nat) (zs : List Nat) (e3 : Int) (u : World) : Prop :=
  Bd u w.heap.size 24 g A n c e1 ∧ Bd u (w.heap.size + 1) 24 k B m d e2 ∧ Bd u (w.heap.size + 1 + 1) 24 h C a b e3 ∧ Lim u A n c xs ∧ Lim u B m d ys ∧ Lim u C a b zs ∧ Tab u ∧ Below w.heap.size w u
section
variable {w : World} {g : Bool} {A : Option Addr} {n c : Nat} {xs : List Nat} {e1 : Int} {k : Bool} {B : Option Addr} {m d : Nat} {ys : List Nat} {e2 : Int} {h : Bool} {C : Option Addr} {a b : Nat} {zs : List Nat} {e3 : Int} {u u' : World}
theorem HeldY.below (q : HeldY w g A n c xs e1 k B m d ys e2 h C a b zs e3 u) (hb : Below u.heap.size u u') : HeldY w g A n c xs e1 k B m d ys e2 h C a b zs e3 u' := by
  obtain ⟨h1, h2, h3, h4, h5, h6, h7, h8⟩ := q
  exact ⟨h1.below hb, h2.below hb, h3.below hb, h4.below hb, h5.below hb, h6.below hb, h7.below hb, h8.trans (hb.mono h8.size)⟩
theorem HeldY.l1 (q : HeldY w g A n c xs e1 k B m d ys e2 h C a b zs e3 u) : Lim u A n c xs := q.2.2.2.1
theorem HeldY.l2 (q : HeldY w g A n c xs e1 k B m d ys e2 h C a b zs e3 u) : Lim u B m d ys := q.2.2.2.2.1
theorem HeldY.l3 (q : HeldY w g A n c xs e1 k B m d ys e2 h C a b zs e3 u) : Lim u C a b zs := q.2.2.2.2.2.1
theorem HeldY.tab_ (q : HeldY w g A n c xs e1 k B m d ys e2 h C a b zs e3 u) : Tab u := q.2.2.2.2.2.2.1
theorem HeldY.old (q : HeldY w g A n c xs e1 k B m d ys e2 h C a b zs e3 u) : Below w.heap.size w u := q.2.2.2.2.2.2.2
theorem HeldY.start (w : World) (g : Bool) (A : Option Addr) (n c : Nat) (xs : List Nat) (e1 : Int) (k : Bool) (B : Option Addr) (m d : Nat) (ys : List Nat) (e2 : Int) (h : Bool) (C : Option Addr) (a b : Nat) (zs : List Nat) (e3 : Int) (hA : Lim w A n c xs) (hB : Lim w B m d ys) (hC : Lim w C a b zs) (hT : Tab w) :
    HeldY w g A n c xs e1 k B m d ys e2 h C a b zs e3 (((w.alloc (.cells #[.bool g, .slice A n c, .int .i64 e1] 24)).alloc (.cells #[.bool k, .slice B m d, .int .i64 e2] 24)).alloc (.cells #[.bool h, .slice C a b, .int .i64 e3] 24)) := by
  have a3 : Below w.heap.size w (((w.alloc (.cells #[.bool g, .slice A n c, .int .i64 e1] 24)).alloc (.cells #[.bool k, .slice B m d, .int .i64 e2] 24)).alloc (.cells #[.bool h, .slice C a b, .int .i64 e3] 24)) := (((Below.refl _ _).alloc (Nat.le_refl _) _).alloc (by simp) _).alloc (by simp; omega) _
  have b2 := Bd.new (w.alloc (.cells #[.bool g, .slice A n c, .int .i64 e1] 24)) 24 k B m d e2
  have b3 := Bd.new ((w.alloc (.cells #[.bool g, .slice A n c, .int .i64 e1] 24)).alloc (.cells #[.bool k, .slice B m d, .int .i64 e2] 24)) 24 h C a b e3
  rw [World.size_alloc] at b2
  rw [World.size_alloc, World.size_alloc] at b3
  exact ⟨((Bd.new w _ _ _ _ _ _).alloc _).alloc _, b2.alloc _, b3, hA.below a3, hB.below a3, hC.below a3, hT.below a3, a3⟩
end

set_option maxHeartbeats 1000000 in
set_option maxRecDepth 20000 in
theorem rules_long (g : Bool) (A : Option Addr) (n c : Nat) (xs : List Nat) (e1 : Int) (mi : Int) (k : Bool) (B : Option Addr) (m d : Nat) (ys : List Nat) (e2 : Int) (ki : Nat) (h : Bool) (C : Option Addr) (a b : Nat) (zs : List Nat) (e3 : Int) (ti : Nat) (w : World) (hT : Tab w) (hA : Lim w A n c xs) (hB : Lim w B m d ys) (hC : Lim w C a b zs) (hl : 3 < n ∨ 3 < m ∨ 3 < a) :
    Calls Tryd.prog 5 #[.agg #[.bool g, .slice A n c, .int .i64 e1], .int .i8 mi, .agg #[.bool k, .slice B m d, .int .i64 e2], .int .u8 (ki : Int), .agg #[.bool h, .slice C a b, .int .i64 e3], .int .u8 (ti : Int)] w fun e w' => e = .returned (.bool true) ∧ Below w.heap.size w w' := by
  have h0 := HeldY.start w g A n c xs e1 k B m d ys e2 h C a b zs e3 hA hB hC hT
  have H1 := Lib.hid (ralive_any _ h0.tab_)
  have H0 := Lib.hid h0
  clear h0 hT hA hB hC
  go_enter Tryd.func5, Tryd.ntmps5
  go_wp2_with fail
  refine H1.out.mono ?_
  rintro e w1 ⟨rfl, hB1⟩
  replace H0 := Lib.hid (H0.out.below hB1)
  have x1 := H0.out.1.c1
  have y1 := H0.out.2.1.c1
  have z1 := H0.out.2.2.1.c1
  have Hfin := Lib.hid H0.out.old
  clear hB1 H1 H0
  by_cases h1 : 3 < n
  · have b1 : decide ((3 : Int) < (n : Int)) = true := decide_eq_true (by omega)
    clear hl h1
    go_wp2
    go_ret
    exact ⟨rfl, Hfin.out⟩
  · have b1 : decide ((3 : Int) < (n : Int)) = false := decide_eq_false (by omega)
    by_cases h2 : 3 < m
    · have b2 : decide ((3 : Int) < (m : Int)) = true := decide_eq_true (by omega)
      clear hl h1 h2
      go_wp2
      go_ret
      exact ⟨rfl, Hfin.out⟩
    · have b2 : decide ((3 : Int) < (m : Int)) = false := decide_eq_false (by omega)
      have b3 : decide ((3 : Int) < (a : Int)) = true := decide_eq_true (by omega)
      clear hl h1 h2
      go_wp2
      go_ret
      exact ⟨rfl, Hfin.out⟩

set_option maxHeartbeats 4000000 in
set_option maxRecDepth 20000 in
theorem rules_short (g : Bool) (A : Option Addr) (n c : Nat) (xs : List Nat) (e1 : Int) (mi : Int) (k : Bool) (B : Option Addr) (m d : Nat) (ys : List Nat) (e2 : Int) (ki : Nat) (h : Bool) (C : Option Addr) (a b : Nat) (zs : List Nat) (e3 : Int) (ti : Nat) (w : World) (hT : Tab w) (hA : Lim w A n c xs) (hB : Lim w B m d ys) (hC : Lim w C a b zs) (hn : n ≤ 3) (hm : m ≤ 3) (ha : a ≤ 3) (hm1 : -128 ≤ mi) (hm2 : mi ≤ 127) (hk : ki ≤ 255) (ht : ti ≤ 255) :
    Calls Tryd.prog 5 #[.agg #[.bool g, .slice A n c, .int .i64 e1], .int .i8 mi, .agg #[.bool k, .slice B m d, .int .i64 e2], .int .u8 (ki : Int), .agg #[.bool h, .slice C a b, .int .i64 e3], .int .u8 (ti : Int)] w fun e w' => e = .returned (.bool true) ∧ Below w.heap.size w w' := by
  have h0 := HeldY.start w g A n c xs e1 k B m d ys e2 h C a b zs e3 hA hB hC hT
  have H1 := Lib.hid (ralive_any _ h0.tab_)
  have H0 := Lib.hid h0
  obtain ⟨i, hi⟩ : ∃ i, mi.tmod 20 = i := ⟨_, rfl⟩
  have hib : -20 < i ∧ i < 20 := by
    rw [← hi]
    constructor
    · have := Int.lt_tmod_of_pos mi (show (0 : Int) < 20 by decide); omega
    · exact Int.tmod_lt_of_pos mi (by decide)
  obtain ⟨j, hj⟩ : ∃ j, 1 + ki % 20 = j := ⟨_, rfl⟩
  obtain ⟨t, htt⟩ : ∃ t, 1 + ti % 4 = t := ⟨_, rfl⟩
  have ej : 1 + (ki : Int) % 20 = (j : Int) := by omega
  have et : 1 + (ti : Int) % 4 = (t : Int) := by omega
  have hj1 : 1 ≤ j := by omega
  have hj9 : j ≤ 20 := by omega
  have ht1 : 1 ≤ t := by omega
  have ht9 : t ≤ 4 := by omega
  have hi1 := hib.1
  have hi2 := hib.2
  obtain ⟨it, hit⟩ : ∃ x, i * (t : Int) = x := ⟨_, rfl⟩
  have hitb : -80 ≤ it ∧ it ≤ 80 := by
    rw [← hit]
    have h9 : t = 1 ∨ t = 2 ∨ t = 3 ∨ t = 4 := by omega
    rcases h9 with rfl | rfl | rfl | rfl <;> omega
  have hit1 := hitb.1
  have hit2 := hitb.2
  obtain ⟨jt, hjt⟩ : ∃ x, j * t = x := ⟨_, rfl⟩
  have ejt : (j : Int) * (t : Int) = (jt : Int) := by rw [← hjt]; exact (Int.natCast_mul _ _).symm
  have hjt9 : jt ≤ 80 := by rw [← hjt]; exact Nat.mul_le_mul hj9 ht9
  have b1 : decide ((3 : Int) < (n : Int)) = false := decide_eq_false (by omega)
  have b2 : decide ((3 : Int) < (m : Int)) = false := decide_eq_false (by omega)
  have b3 : decide ((3 : Int) < (a : Int)) = false := decide_eq_false (by omega)
  obtain ⟨⟨v1, r1⟩, hc1⟩ : ∃ x, cmpR (mk g (val xs) e1) i (mk k (val ys) e2) (j : Int) = x := ⟨_, rfl⟩
  obtain ⟨⟨v2, r2⟩, hc2⟩ : ∃ x, cmpR (mk g (val xs) e1) it (mk k (val ys) e2) (jt : Int) = x := ⟨_, rfl⟩
  have hsame : r1 = 0 → r2 = 0 → v1 = v2 := fun q1 q2 => by
    subst q1; subst q2
    rw [← hit, ← hjt] at hc2
    exact rule_times (by omega) hc1 hc2
  have HS := Lib.hid hsame
  have HC1 := Lib.hid hc1
  have HC2 := Lib.hid hc2
  clear h0 hT hA hB hC hib hitb hj htt hjt hc1 hc2 hsame
  go_enter Tryd.func5, Tryd.ntmps5
  go_wp2_with fail
  refine H1.out.mono ?_
  rintro e w1 ⟨rfl, hB1⟩
  replace H0 := Lib.hid (H0.out.below hB1)
  clear hB1 H1
  have x0 := H0.out.1.c0
  have x1 := H0.out.1.c1
  have x2 := H0.out.1.c2
  have y0 := H0.out.2.1.c0
  have y1 := H0.out.2.1.c1
  have y2 := H0.out.2.1.c2
  have z0 := H0.out.2.2.1.c0
  have z1 := H0.out.2.2.1.c1
  have z2 := H0.out.2.2.1.c2
  have HM := Lib.hid (ratcmp_l v1 r1 g A n c xs e1 i k B m d ys e2 j _ H0.out.l1 H0.out.l2 (by omega) (by omega) H0.out.tab_ (by omega) (by omega) (by omega) (by omega) HC1)
  go_wp2_with fail
  refine HM.out.mono ?_
  rintro e w2 ⟨rfl, hB2⟩
  replace H0 := Lib.hid (H0.out.below hB2)
  clear hB2 HM b1 b2 b3 x0 x1 x2 y0 y1 y2 z0 z1 z2
  have x0 := H0.out.1.c0
  have x1 := H0.out.1.c1
  have x2 := H0.out.1.c2
  have y0 := H0.out.2.1.c0
  have y1 := H0.out.2.1.c1
  have y2 := H0.out.2.1.c2
  have HM := Lib.hid (ratcmp_l v2 r2 g A n c xs e1 it k B m d ys e2 jt _ H0.out.l1 H0.out.l2 (by omega) (by omega) H0.out.tab_ (by omega) (by omega) (by omega) (by omega) HC2)
  go_wp2_with fail
  refine HM.out.mono ?_
  rintro e w3 ⟨rfl, hB3⟩
  replace H0 := Lib.hid (H0.out.below hB3)
  clear hB3 HM HC2 x0 x1 x2 y0 y1 y2
  by_cases q1 : r1 = 0
  case neg =>
    have b1 : (r1 == 0) = false := beq_eq_false_iff_ne.2 q1
    have Hfin := Lib.hid H0.out.old
    clear H0 HS HC1 q1
    go_wp2
    go_ret
    exact ⟨rfl, Hfin.out⟩
  case pos =>
    subst q1
    by_cases q2 : r2 = 0
    case neg =>
      have b1 : (r2 == 0) = false := beq_eq_false_iff_ne.2 q2
      have Hfin := Lib.hid H0.out.old
      clear H0 HS HC1 q2
      go_wp2
      go_ret
      exact ⟨rfl, Hfin.out⟩
    case pos =>
      subst q2
      obtain rfl := HS.out rfl rfl
      have b9 : (v1 == v1) = true := by simp
      obtain ⟨o, ho⟩ : ∃ o, addO (mk k (val ys) e2) (mk h (val zs) e3) = o := ⟨_, rfl⟩
      obtain ⟨⟨P, rp⟩, hP⟩ : ∃ x, powR (mk g (val xs) e1) (j : Int) = x := ⟨_, rfl⟩
      have HO := Lib.hid ho
      have HP := Lib.hid hP
      clear ho hP HS
      have y0 := H0.out.2.1.c0
      have y1 := H0.out.2.1.c1
      have y2 := H0.out.2.1.c2
      have z0 := H0.out.2.2.1.c0
      have z1 := H0.out.2.2.1.c1
      have z2 := H0.out.2.2.1.c2
      have HM := Lib.hid (dadd_any o k B m d ys e2 h C a b zs e3 _ H0.out.l2 H0.out.l3 (by omega) (by omega) H0.out.tab_ HO)
      go_wp2_with fail
      refine HM.out.mono ?_
      rintro e w4 ⟨g4, A4, m4, c4, fs, E4, r4, rfl, hm4, hl4, hb4, his4, hB4⟩
      replace H0 := Lib.hid ((H0.out.below hB4).below (below1 _ (.cells #[.bool g4, .slice A4 m4 c4, .int .i64 E4] 30)))
      have HG := Lib.hid (Bd.new w4 30 g4 A4 m4 c4 E4)
      have HL := Lib.hid (hl4.alloc (.cells #[.bool g4, .slice A4 m4 c4, .int .i64 E4] 30))
      clear hB4 HM hl4 hb4 y0 y1 y2 z0 z1 z2
      cases o with
      | none =>
        obtain ⟨rfl, rfl, _, rfl⟩ := his4
        clear HG HL HO
        have x0 := H0.out.1.c0
        have x1 := H0.out.1.c1
        have x2 := H0.out.1.c2
        have HM := Lib.hid (rpow_l P rp g A n c xs e1 j _ H0.out.l1 (by omega) H0.out.tab_ (by omega) (by omega) HP)
        go_wp2_with fail
        refine HM.out.mono ?_
        rintro e w7 ⟨A7, m7, c7, gs, rfl, hm7, hl7, hb7, hv7, hB7⟩
        replace H0 := Lib.hid ((H0.out.below hB7).below (below1 _ (.cells #[.bool P.neg, .slice A7 m7 c7, .int .i64 P.e] 30)))
        have HQ := Lib.hid (Bd.new w7 30 P.neg A7 m7 c7 P.e)
        have HL7 := Lib.hid (hl7.alloc (.cells #[.bool P.neg, .slice A7 m7 c7, .int .i64 P.e] 30))
        have HV7 := Lib.hid hv7
        clear hB7 HM hl7 hb7 hv7 x0 x1 x2
        by_cases qp : rp = 0
        case neg =>
          have b8 : (rp == 0) = false := beq_eq_false_iff_ne.2 qp
          have Hfin := Lib.hid H0.out.old
          clear H0 HC1 HP HQ HL7 HV7 qp
          go_wp2
          go_ret
          exact ⟨rfl, Hfin.out⟩
        case pos =>
          subst qp
          obtain ⟨⟨v5, r5⟩, h5⟩ : ∃ x, cmpR (mk g (val xs) e1) (j : Int) (mk P.neg P.V P.e) 1 = x := ⟨_, rfl⟩
          have hu5 : r5 = 0 → v5 = 0 := fun q5 => by subst q5; exact rule_pow HP.out h5
          have h5' : Hid (cmpR (mk g (val xs) e1) (j : Int) (mk P.neg (val gs) P.e) 1 = (v5, r5)) := by show _ = _; rw [HV7.out]; exact h5
          have HM := Lib.hid (ratcmp_l v5 r5 g A n c xs e1 j P.neg A7 m7 c7 gs P.e 1 _ H0.out.l1 HL7.out (by omega) (by omega) H0.out.tab_ (by omega) (by omega) (by decide) (by decide) h5')
          have s0 := HQ.out.c0
          have s1 := HQ.out.c1
          have s2 := HQ.out.c2
          clear h5 h5' HV7
          have x0 := H0.out.1.c0
          have x1 := H0.out.1.c1
          have x2 := H0.out.1.c2
          go_wp2_with fail
          refine HM.out.mono ?_
          rintro e w8 ⟨rfl, hB8⟩
          have Hfin := Lib.hid (H0.out.below hB8).old
          clear hB8 HM H0 HQ HL7 HC1 HP x0 x1 x2 s0 s1 s2
          by_cases q5 : r5 = 0
          · obtain rfl := hu5 q5
            subst q5
            clear hu5
            go_wp2
            go_ret
            exact ⟨rfl, Hfin.out⟩
          · have b8 : (r5 == 0) = false := beq_eq_false_iff_ne.2 q5
            clear hu5
            go_wp2
            all_goals first
              | (exact absurd rfl q5)
              | (go_ret; exact ⟨rfl, Hfin.out⟩)
      | some G =>
        obtain ⟨rfl, hg4, hz4, he4⟩ := his4
        obtain ⟨s, hs⟩ : ∃ s, sgD h (val zs) = s := ⟨_, rfl⟩
        have HSg := Lib.hid (sign_l s h C a b zs e3 _ H0.out.l3 (by omega) hs)
        have HSs := Lib.hid hs
        have H4 : Hid (g4 = G.neg ∧ val fs = G.V ∧ E4 = G.e) := ⟨hg4, hz4, he4⟩
        clear hs hg4 hz4 he4
        have z0 := H0.out.2.2.1.c0
        have z1 := H0.out.2.2.1.c1
        have z2 := H0.out.2.2.1.c2
        go_wp2_with fail
        refine HSg.out.mono ?_
        rintro e w5 ⟨rfl, hB5⟩
        replace H0 := Lib.hid (H0.out.below hB5)
        replace HG := Lib.hid (HG.out.below hB5)
        replace HL := Lib.hid (HL.out.below hB5)
        clear hB5 HSg z0 z1 z2
        by_cases qs : 0 < s
        case neg =>
          have bs : decide (0 < s) = false := decide_eq_false qs
          clear HG HL HO H4 HSs qs
          have x0 := H0.out.1.c0
          have x1 := H0.out.1.c1
          have x2 := H0.out.1.c2
          have HM := Lib.hid (rpow_l P rp g A n c xs e1 j _ H0.out.l1 (by omega) H0.out.tab_ (by omega) (by omega) HP)
          go_wp2_with fail
          refine HM.out.mono ?_
          rintro e w7 ⟨A7, m7, c7, gs, rfl, hm7, hl7, hb7, hv7, hB7⟩
          replace H0 := Lib.hid ((H0.out.below hB7).below (below1 _ (.cells #[.bool P.neg, .slice A7 m7 c7, .int .i64 P.e] 30)))
          have HQ := Lib.hid (Bd.new w7 30 P.neg A7 m7 c7 P.e)
          have HL7 := Lib.hid (hl7.alloc (.cells #[.bool P.neg, .slice A7 m7 c7, .int .i64 P.e] 30))
          have HV7 := Lib.hid hv7
          clear hB7 HM hl7 hb7 hv7 x0 x1 x2
          by_cases qp : rp = 0
          case neg =>
            have b8 : (rp == 0) = false := beq_eq_false_iff_ne.2 qp
            have Hfin := Lib.hid H0.out.old
            clear H0 HC1 HP HQ HL7 HV7 qp
            go_wp2
            go_ret
            exact ⟨rfl, Hfin.out⟩
          case pos =>
            subst qp
            obtain ⟨⟨v5, r5⟩, h5⟩ : ∃ x, cmpR (mk g (val xs) e1) (j : Int) (mk P.neg P.V P.e) 1 = x := ⟨_, rfl⟩
            have hu5 : r5 = 0 → v5 = 0 := fun q5 => by subst q5; exact rule_pow HP.out h5
            have h5' : Hid (cmpR (mk g (val xs) e1) (j : Int) (mk P.neg (val gs) P.e) 1 = (v5, r5)) := by show _ = _; rw [HV7.out]; exact h5
            have HM := Lib.hid (ratcmp_l v5 r5 g A n c xs e1 j P.neg A7 m7 c7 gs P.e 1 _ H0.out.l1 HL7.out (by omega) (by omega) H0.out.tab_ (by omega) (by omega) (by decide) (by decide) h5')
            have s0 := HQ.out.c0
            have s1 := HQ.out.c1
            have s2 := HQ.out.c2
            clear h5 h5' HV7
            have x0 := H0.out.1.c0
            have x1 := H0.out.1.c1
            have x2 := H0.out.1.c2
            go_wp2_with fail
            refine HM.out.mono ?_
            rintro e w8 ⟨rfl, hB8⟩
            have Hfin := Lib.hid (H0.out.below hB8).old
            clear hB8 HM H0 HQ HL7 HC1 HP x0 x1 x2 s0 s1 s2
            by_cases q5 : r5 = 0
            · obtain rfl := hu5 q5
              subst q5
              clear hu5
              go_wp2
              go_ret
              exact ⟨rfl, Hfin.out⟩
            · have b8 : (r5 == 0) = false := beq_eq_false_iff_ne.2 q5
              clear hu5
              go_wp2
              all_goals first
                | (exact absurd rfl q5)
                | (go_ret; exact ⟨rfl, Hfin.out⟩)
        case pos =>
          have bs : decide (0 < s) = true := decide_eq_true qs
          obtain ⟨⟨v6, r6⟩, h6⟩ : ∃ x, cmpR (mk g (val xs) e1) i (mk G.neg G.V G.e) (j : Int) = x := ⟨_, rfl⟩
          have hu6 : r6 = 0 → v6 ≤ v1 := fun q6 => by subst q6; exact rule_more HC1.out HO.out (by rw [HSs.out]; exact qs) h6
          have h6' : Hid (cmpR (mk g (val xs) e1) i (mk g4 (val fs) E4) (j : Int) = (v6, r6)) := by show _ = _; rw [H4.out.1, H4.out.2.1, H4.out.2.2]; exact h6
          have HM := Lib.hid (ratcmp_l v6 r6 g A n c xs e1 i g4 A4 m4 c4 fs E4 j _ H0.out.l1 HL.out (by omega) (by omega) H0.out.tab_ (by omega) (by omega) (by omega) (by omega) h6')
          have s0 := HG.out.c0
          have s1 := HG.out.c1
          have s2 := HG.out.c2
          clear h6 h6' HO H4 HSs qs
          have x0 := H0.out.1.c0
          have x1 := H0.out.1.c1
          have x2 := H0.out.1.c2
          go_wp2_with fail
          refine HM.out.mono ?_
          rintro e w6 ⟨rfl, hB6⟩
          replace H0 := Lib.hid (H0.out.below hB6)
          clear hB6 HM HG HL x0 x1 x2 s0 s1 s2
          by_cases q6 : r6 = 0
          case neg =>
            have b6 : (r6 == 0) = false := beq_eq_false_iff_ne.2 q6
            clear hu6 q6
            have x0 := H0.out.1.c0
            have x1 := H0.out.1.c1
            have x2 := H0.out.1.c2
            have HM := Lib.hid (rpow_l P rp g A n c xs e1 j _ H0.out.l1 (by omega) H0.out.tab_ (by omega) (by omega) HP)
            go_wp2_with fail
            refine HM.out.mono ?_
            rintro e w7 ⟨A7, m7, c7, gs, rfl, hm7, hl7, hb7, hv7, hB7⟩
            replace H0 := Lib.hid ((H0.out.below hB7).below (below1 _ (.cells #[.bool P.neg, .slice A7 m7 c7, .int .i64 P.e] 30)))
            have HQ := Lib.hid (Bd.new w7 30 P.neg A7 m7 c7 P.e)
            have HL7 := Lib.hid (hl7.alloc (.cells #[.bool P.neg, .slice A7 m7 c7, .int .i64 P.e] 30))
            have HV7 := Lib.hid hv7
            clear hB7 HM hl7 hb7 hv7 x0 x1 x2
            by_cases qp : rp = 0
            case neg =>
              have b8 : (rp == 0) = false := beq_eq_false_iff_ne.2 qp
              have Hfin := Lib.hid H0.out.old
              clear H0 HC1 HP HQ HL7 HV7 qp
              go_wp2
              go_ret
              exact ⟨rfl, Hfin.out⟩
            case pos =>
              subst qp
              obtain ⟨⟨v5, r5⟩, h5⟩ : ∃ x, cmpR (mk g (val xs) e1) (j : Int) (mk P.neg P.V P.e) 1 = x := ⟨_, rfl⟩
              have hu5 : r5 = 0 → v5 = 0 := fun q5 => by subst q5; exact rule_pow HP.out h5
              have h5' : Hid (cmpR (mk g (val xs) e1) (j : Int) (mk P.neg (val gs) P.e) 1 = (v5, r5)) := by show _ = _; rw [HV7.out]; exact h5
              have HM := Lib.hid (ratcmp_l v5 r5 g A n c xs e1 j P.neg A7 m7 c7 gs P.e 1 _ H0.out.l1 HL7.out (by omega) (by omega) H0.out.tab_ (by omega) (by omega) (by decide) (by decide) h5')
              have s0 := HQ.out.c0
              have s1 := HQ.out.c1
              have s2 := HQ.out.c2
              clear h5 h5' HV7
              have x0 := H0.out.1.c0
              have x1 := H0.out.1.c1
              have x2 := H0.out.1.c2
              go_wp2_with fail
              refine HM.out.mono ?_
              rintro e w8 ⟨rfl, hB8⟩
              have Hfin := Lib.hid (H0.out.below hB8).old
              clear hB8 HM H0 HQ HL7 HC1 HP x0 x1 x2 s0 s1 s2
              by_cases q5 : r5 = 0
              · obtain rfl := hu5 q5
                subst q5
                clear hu5
                go_wp2
                go_ret
                exact ⟨rfl, Hfin.out⟩
              · have b8 : (r5 == 0) = false := beq_eq_false_iff_ne.2 q5
                clear hu5
                go_wp2
                all_goals first
                  | (exact absurd rfl q5)
                  | (go_ret; exact ⟨rfl, Hfin.out⟩)
          case pos =>
            have b6 : decide (v1 < v6) = false := decide_eq_false (by have := hu6 q6; omega)
            subst q6
            clear hu6
            have x0 := H0.out.1.c0
            have x1 := H0.out.1.c1
            have x2 := H0.out.1.c2
            have HM := Lib.hid (rpow_l P rp g A n c xs e1 j _ H0.out.l1 (by omega) H0.out.tab_ (by omega) (by omega) HP)
            go_wp2_with fail
            refine HM.out.mono ?_
            rintro e w7 ⟨A7, m7, c7, gs, rfl, hm7, hl7, hb7, hv7, hB7⟩
            replace H0 := Lib.hid ((H0.out.below hB7).below (below1 _ (.cells #[.bool P.neg, .slice A7 m7 c7, .int .i64 P.e] 30)))
            have HQ := Lib.hid (Bd.new w7 30 P.neg A7 m7 c7 P.e)
            have HL7 := Lib.hid (hl7.alloc (.cells #[.bool P.neg, .slice A7 m7 c7, .int .i64 P.e] 30))
            have HV7 := Lib.hid hv7
            clear hB7 HM hl7 hb7 hv7 x0 x1 x2
            by_cases qp : rp = 0
            case neg =>
              have b8 : (rp == 0) = false := beq_eq_false_iff_ne.2 qp
              have Hfin := Lib.hid H0.out.old
              clear H0 HC1 HP HQ HL7 HV7 qp
              go_wp2
              go_ret
              exact ⟨rfl, Hfin.out⟩
            case pos =>
              subst qp
              obtain ⟨⟨v5, r5⟩, h5⟩ : ∃ x, cmpR (mk g (val xs) e1) (j : Int) (mk P.neg P.V P.e) 1 = x := ⟨_, rfl⟩
              have hu5 : r5 = 0 → v5 = 0 := fun q5 => by subst q5; exact rule_pow HP.out h5
              have h5' : Hid (cmpR (mk g (val xs) e1) (j : Int) (mk P.neg (val gs) P.e) 1 = (v5, r5)) := by show _ = _; rw [HV7.out]; exact h5
              have HM := Lib.hid (ratcmp_l v5 r5 g A n c xs e1 j P.neg A7 m7 c7 gs P.e 1 _ H0.out.l1 HL7.out (by omega) (by omega) H0.out.tab_ (by omega) (by omega) (by decide) (by decide) h5')
              have s0 := HQ.out.c0
              have s1 := HQ.out.c1
              have s2 := HQ.out.c2
              clear h5 h5' HV7
              have x0 := H0.out.1.c0
              have x1 := H0.out.1.c1
              have x2 := H0.out.1.c2
              go_wp2_with fail
              refine HM.out.mono ?_
              rintro e w8 ⟨rfl, hB8⟩
              have Hfin := Lib.hid (H0.out.below hB8).old
              clear hB8 HM H0 HQ HL7 HC1 HP x0 x1 x2 s0 s1 s2
              by_cases q5 : r5 = 0
              · obtain rfl := hu5 q5
                subst q5
                clear hu5
                go_wp2
                go_ret
                exact ⟨rfl, Hfin.out⟩
              · have b8 : (r5 == 0) = false := beq_eq_false_iff_ne.2 q5
                clear hu5
                go_wp2
                all_goals first
                  | (exact absurd rfl q5)
                  | (go_ret; exact ⟨rfl, Hfin.out⟩)

theorem walk_ratioRules (g : Bool) (A : Option Addr) (n c : Nat) (xs : List Nat) (e1 : Int) (mi : Int) (k : Bool) (B : Option Addr) (m d : Nat) (ys : List Nat) (e2 : Int) (ki : Int) (h : Bool) (C : Option Addr) (a b : Nat) (zs : List Nat) (e3 : Int) (ti : Int) (w : World) (hT : Tab w) (hA : Lim w A n c xs) (hm1 : -128 ≤ mi) (hm2 : mi ≤ 127) (hB : Lim w B m d ys) (hk1 : 0 ≤ ki) (hk2 : ki ≤ 255) (hC : Lim w C a b zs) (ht1 : 0 ≤ ti) (ht2 : ti ≤ 255) :
    Calls Tryd.prog 5 #[.agg #[.bool g, .slice A n c, .int .i64 e1], .int .i8 mi, .agg #[.bool k, .slice B m d, .int .i64 e2], .int .u8 ki, .agg #[.bool h, .slice C a b, .int .i64 e3], .int .u8 ti] w fun e w' => e = .returned (.bool true) ∧ Below w.heap.size w w' := by
  obtain ⟨ki, rfl⟩ := Int.eq_ofNat_of_zero_le hk1
  obtain ⟨ti, rfl⟩ := Int.eq_ofNat_of_zero_le ht1
  by_cases hl : 3 < n ∨ 3 < m ∨ 3 < a
  · exact rules_long g A n c xs e1 mi k B m d ys e2 ki h C a b zs e3 ti w hT hA hB hC hl
  · exact rules_short g A n c xs e1 mi k B m d ys e2 ki h C a b zs e3 ti w hT hA hB hC (by omega) (by omega) (by omega) hm1 hm2 (by omega) (by omega)
end Go.Proofs.YteflihpnhgicfaaDoor
