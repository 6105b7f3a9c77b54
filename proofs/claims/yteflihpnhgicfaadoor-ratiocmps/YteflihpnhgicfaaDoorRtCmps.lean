/- The walk of the law RatioCmps (written by law_rcmps.py). -/
import Derived.Test.YteflihpnhgicfaaDoorRtTwo
import Derived.Test.YteflihpnhgicfaaDoorRtRCmp
import Derived.Test.YteflihpnhgicfaaDoorRtAlive
import Derived.Deep.Cut
namespace Go.Proofs.YteflihpnhgicfaaDoor
open Go.RowKit

theorem mk_if {g : Bool} {V : Nat} {e : Int} {d : Dy} (h : nO g V e = d) : mk g V e = if -1073741824 ≤ d.e ∧ d.e ≤ 1073741824 then some d else none := by
  rw [mk_nO, h]
  have ho := nO_odd g V e
  rw [h] at ho
  unfold toldD
  rcases ho with ⟨k, hk⟩ | ho
  · rw [if_neg (by omega)]
    by_cases h1 : -1073741824 ≤ d.e ∧ d.e ≤ 1073741824
    · rw [if_pos h1, if_neg (by omega)]
    · rw [if_neg h1, if_pos (by omega)]
  · subst ho; rfl
theorem low_le_bits (V : Nat) : low V ≤ blen V := by
  rcases Nat.eq_zero_or_pos V with h | h
  · subst h; decide
  · obtain ⟨m, hm⟩ := low_spec h
    have h1 := lt_blen V
    rcases Nat.lt_or_ge (blen V) (low V) with h2 | h2
    · have h3 : (2 : Nat) ^ blen V ≤ 2 ^ low V := Nat.pow_le_pow_right (by decide) (by omega)
      have h4 : 2 ^ low V * 1 ≤ 2 ^ low V * (2 * m + 1) := Nat.mul_le_mul_left _ (by omega)
      omega
    · exact h2
theorem nO_ebd {g : Bool} {V : Nat} {e : Int} {d : Dy} (h : nO g V e = d) (hb : blen V ≤ 100000) : -4294967296 ≤ d.e ∧ d.e ≤ 4294967296 := by
  by_cases h0 : V = 0
  · subst h0; rw [← h, nO_zero]; decide
  · rw [← h, nO_pos _ _ h0]
    have h1 := held_bd e
    have h2 := low_le_bits V
    constructor
    · show -4294967296 ≤ held e + low V; omega
    · show held e + low V ≤ 4294967296; omega
theorem nO_vbd {g : Bool} {V : Nat} {e : Int} {d : Dy} (h : nO g V e = d) : blen d.V ≤ blen V := by
  by_cases h0 : V = 0
  · subst h0; rw [← h, nO_zero]; exact Nat.le_refl _
  · rw [← h, nO_pos _ _ h0]
    exact blen_mono (Nat.div_le_self _ _)


set_option maxHeartbeats 1000000 in
theorem cmps_long (g : Bool) (A : Option Addr) (n c : Nat) (e1 i : Int) (k : Bool) (B : Option Addr) (m d : Nat) (e2 j : Int) (w : World) (hT : Tab w) (h : 10 < n ∨ 10 < m) :
    Calls Tryd.prog 4 #[.agg #[.bool g, .slice A n c, .int .i64 e1], .int .i64 i, .agg #[.bool k, .slice B m d, .int .i64 e2], .int .i64 j] w fun e w' => e = .returned (.bool true) ∧ Below w.heap.size w w' := by
  have a2 := below_2 w (.cells #[.bool g, .slice A n c, .int .i64 e1] 24) (.cells #[.bool k, .slice B m d, .int .i64 e2] 24)
  have b2 := Bd.new (w.alloc (.cells #[.bool g, .slice A n c, .int .i64 e1] 24)) 24 k B m d e2
  rw [World.size_alloc] at b2
  have Hb1 := Lib.hid ((Bd.new w 24 g A n c e1).alloc (.cells #[.bool k, .slice B m d, .int .i64 e2] 24))
  have Hb2 := Lib.hid b2
  have H1 := Lib.hid (ralive_any _ (hT.below a2))
  have HS := Lib.hid a2
  clear a2 b2 hT
  go_enter Tryd.func4, Tryd.ntmps4
  go_wp2_with fail
  refine H1.out.mono ?_
  rintro e w1 ⟨rfl, hB1⟩
  have x1 := (Hb1.out.below hB1).c1
  have y1 := (Hb2.out.below hB1).c1
  have Hfin := Lib.hid (HS.out.trans (hB1.mono HS.out.size))
  clear hB1 H1 HS Hb1 Hb2
  by_cases hn : 10 < n
  · have b1 : decide ((10 : Int) < (n : Int)) = true := decide_eq_true (by omega)
    clear h hn
    go_wp2
    go_ret
    exact ⟨rfl, Hfin.out⟩
  · have b1 : decide ((10 : Int) < (n : Int)) = false := decide_eq_false (by omega)
    have b2 : decide ((10 : Int) < (m : Int)) = true := decide_eq_true (by omega)
    clear h hn
    go_wp2
    go_ret
    exact ⟨rfl, Hfin.out⟩

set_option maxHeartbeats 4000000 in
set_option maxRecDepth 20000 in
theorem cmps_short (g : Bool) (A : Option Addr) (n c : Nat) (xs : List Nat) (e1 i : Int) (k : Bool) (B : Option Addr) (m d : Nat) (ys : List Nat) (e2 j : Int) (w : World) (hT : Tab w) (hA : Lim w A n c xs) (hB : Lim w B m d ys) (hn : n ≤ 10) (hm : m ≤ 10) (hi1 : -9223372036854775808 ≤ i) (hi2 : i ≤ 9223372036854775807) (hj1 : -9223372036854775808 ≤ j) (hj2 : j ≤ 9223372036854775807) :
    Calls Tryd.prog 4 #[.agg #[.bool g, .slice A n c, .int .i64 e1], .int .i64 i, .agg #[.bool k, .slice B m d, .int .i64 e2], .int .i64 j] w fun e w' => e = .returned (.bool true) ∧ Below w.heap.size w w' := by
  have h0 := HeldX.start w g A n c xs e1 k B m d ys e2 hA hB hT
  have HA1 := Lib.hid (ralive_any _ h0.tab_)
  have H0 := Lib.hid h0
  have hbl1 := hA.blen_le
  have hbl2 := hB.blen_le
  obtain ⟨⟨g1, V1, E1⟩, hd1⟩ : ∃ d, nO g (val xs) e1 = d := ⟨_, rfl⟩
  obtain ⟨⟨g2, V2, E2⟩, hd2⟩ : ∃ d, nO k (val ys) e2 = d := ⟨_, rfl⟩
  have he1 := nO_ebd hd1 (by omega)
  have he2 := nO_ebd hd2 (by omega)
  have hv1 := nO_vbd hd1
  have hv2 := nO_vbd hd2
  have hm1 := mk_if hd1
  have hm2 := mk_if hd2
  have lf1 := lawfit_O g (val xs) e1 i
  have lf2 := lawfit_O k (val ys) e2 j
  rw [hd1] at lf1
  rw [hd2] at lf2
  simp only at he1 he2 hv1 hv2 hm1 hm2 lf1 lf2
  obtain ⟨⟨v, r⟩, hvr⟩ : ∃ x, cmpR (mk g (val xs) e1) i (mk k (val ys) e2) j = x := ⟨_, rfl⟩
  have HC : Hid (∀ u, HeldX w w.heap.size g A n c xs e1 (w.heap.size + 1) k B m d ys e2 u → Calls Tryd.prog 17 #[.agg #[.bool g, .slice A n c, .int .i64 e1], .int .i64 i, .agg #[.bool k, .slice B m d, .int .i64 e2], .int .i64 j] u fun e w' => e = .returned (.tuple #[.int .i64 v, .int .i64 r]) ∧ Below u.heap.size u w') := fun u hu =>
    ratcmp_l v r g A n c xs e1 i k B m d ys e2 j u hu.lim1 hu.lim2 (by omega) (by omega) hu.tab_ hi1 hi2 hj1 hj2 hvr
  rw [hm1] at lf1 hvr
  rw [hm2] at lf2 hvr
  have HO1 : Hid (∀ u, HeldX w w.heap.size g A n c xs e1 (w.heap.size + 1) k B m d ys e2 u → Calls Tryd.prog 8 #[.agg #[.bool g, .slice A n c, .int .i64 e1]] u (NTold u ⟨g1, V1, E1⟩ 40)) := fun u hu => by
    have h := rof_any g A n c xs e1 u hu.lim1 (by omega)
    rw [hd1] at h
    exact h.mono fun _ _ ⟨A1, m1, c1, ds1, q1, q2, q3⟩ => ⟨A1, m1, c1, ds1, q1, by omega, q3⟩
  have HO2 : Hid (∀ u, HeldX w w.heap.size g A n c xs e1 (w.heap.size + 1) k B m d ys e2 u → Calls Tryd.prog 8 #[.agg #[.bool k, .slice B m d, .int .i64 e2]] u (NTold u ⟨g2, V2, E2⟩ 40)) := fun u hu => by
    have h := rof_any k B m d ys e2 u hu.lim2 (by omega)
    rw [hd2] at h
    exact h.mono fun _ _ ⟨A1, m1, c1, ds1, q1, q2, q3⟩ => ⟨A1, m1, c1, ds1, q1, by omega, q3⟩
  have HM : Hid ((cmpR (if -1073741824 ≤ E1 ∧ E1 ≤ 1073741824 then some ⟨g1, V1, E1⟩ else none) i (if -1073741824 ≤ E2 ∧ E2 ≤ 1073741824 then some ⟨g2, V2, E2⟩ else none) j = (v, r)) ∧ lawfit V1 E1 i = fitO (if -1073741824 ≤ E1 ∧ E1 ≤ 1073741824 then some ⟨g1, V1, E1⟩ else none) i ∧ lawfit V2 E2 j = fitO (if -1073741824 ≤ E2 ∧ E2 ≤ 1073741824 then some ⟨g2, V2, E2⟩ else none) j) := ⟨hvr, lf1, lf2⟩
  have HE : Hid (-4294967296 ≤ E1 ∧ E1 ≤ 4294967296 ∧ -4294967296 ≤ E2 ∧ E2 ≤ 4294967296) := ⟨he1.1, he1.2, he2.1, he2.2⟩
  have HV : Hid (blen V1 ≤ 640 ∧ blen V2 ≤ 640) := by constructor <;> omega
  have b1 : decide ((10 : Int) < (n : Int)) = false := decide_eq_false (by omega)
  have b2 : decide ((10 : Int) < (m : Int)) = false := decide_eq_false (by omega)
  clear hA hB hT h0 hbl1 hbl2 hd1 hd2 he1 he2 hv1 hv2 hm1 hm2 lf1 lf2 hvr
  go_enter Tryd.func4, Tryd.ntmps4
  go_wp2_with fail
  refine HA1.out.mono ?_
  rintro e w1 ⟨rfl, hB1⟩
  replace H0 := Lib.hid (H0.out.below hB1)
  have x1 := H0.out.1.c1
  have y1 := H0.out.2.1.c1
  have cur := Lib.hid ((HoldV.start w1).below (below_drew _))
  have F1 := Lib.hid ((HoldV.start w1).one.below (below_drew _))
  have F2 := Lib.hid ((HoldV.start w1).two.below (below_drew _))
  clear hB1 HA1
  go_wp2_with fail
  go_cut [9, 10] from 13 (fun s9 s10 wx => ∃ (p q m1 c1 m2 c2 : Nat) (A1 A2 : Option Addr) (es1 es2 : List Nat), s9 = .pointer (some ⟨p, 0, none⟩) ∧ s10 = .pointer (some ⟨q, 0, none⟩) ∧ m1 ≤ 40 ∧ m2 ≤ 40 ∧ Hid (RelV w1 p g1 A1 m1 c1 E1 V1 es1 q g2 A2 m2 c2 E2 V2 es2 wx))
  case first =>
    go_region_held3 (fun u => Six u w.heap.size g A n c e1 (w.heap.size + 1) k B m d e2)
      (first | (with_reducible exact (H0.out.below cur.out.old).six) | (with_reducible exact (H0.out.below F1.out.old).six) | (with_reducible exact (H0.out.below F2.out.old).six) | (with_reducible exact (H0.out.below (cur.out.a1 _)).six) | (with_reducible exact (H0.out.below (cur.out.a2 _ _)).six) | (with_reducible exact (H0.out.below (cur.out.at1 _ _ _ _ _)).six) | (with_reducible exact (H0.out.below (cur.out.at2 _ _ _ _ _)).six) | (with_reducible exact (H0.out.below (cur.out.at1a _ _ _ _ _ _)).six) | (with_reducible exact (H0.out.below (cur.out.at12 _ _ _ _ _ _ _ _ _ _)).six) | (with_reducible exact (H0.out.below (cur.out.at21 _ _ _ _ _ _ _ _ _ _)).six))
      (first
        | (go_at_call 8; (with_reducible refine (HO1.out _ (by first | (with_reducible exact H0.out.below cur.out.old) | (with_reducible exact H0.out.below F1.out.old) | (with_reducible exact H0.out.below F2.out.old) | (with_reducible exact H0.out.below (cur.out.a1 _)) | (with_reducible exact H0.out.below (cur.out.a2 _ _)))).mono ?_); rintro e u1 ⟨A1, m1, c1, es1, rfl, hm1, hl1, hd1, hv1, hB1⟩; (first | (with_reducible (replace L2 := Lib.hid (L2.out.below hB1))) | (with_reducible (replace L2 := Lib.hid ((L2.out.below (below1 _ (.cells #[.bool false, .slice none 0 0, .int .i64 0] 28))).below hB1))) | (with_reducible (replace L2 := Lib.hid ((L2.out.below (below_2 _ (.cells #[.bool false, .slice none 0 0, .int .i64 0] 28) (.cells #[.bool false, .slice none 0 0, .int .i64 0] 28))).below hB1))) | skip); (first | (with_reducible (replace cur := Lib.hid (cur.out.below hB1))) | (with_reducible (replace cur := Lib.hid (cur.out.one.below hB1))) | (with_reducible (replace cur := Lib.hid (cur.out.two.below hB1))) | (with_reducible (replace cur := Lib.hid (F1.out.below hB1))) | (with_reducible (replace cur := Lib.hid (F2.out.below hB1)))); have L1 : Hid (Mg u1 V1 A1 m1 c1 es1) := ⟨hl1, hd1, hv1⟩; clear hl1 hd1 hv1 hB1; (first | (have kx := cur.out.first; have x0 := kx.c0; have x1 := kx.c1; have x2 := kx.c2; have xf := kx.fz; have xl := kx.lt; clear kx) | skip); (first | (have ky := cur.out.second; have y0 := ky.1.c0; have y1 := ky.1.c1; have y2 := ky.1.c2; have yf := ky.1.fz; have yl := ky.1.lt; have yx := ky.2; clear ky) | skip))
        | (go_at_call 8; (with_reducible refine (HO2.out _ (by first | (with_reducible exact H0.out.below cur.out.old) | (with_reducible exact H0.out.below F1.out.old) | (with_reducible exact H0.out.below F2.out.old) | (with_reducible exact H0.out.below (cur.out.a1 _)) | (with_reducible exact H0.out.below (cur.out.a2 _ _)))).mono ?_); rintro e u2 ⟨A2, m2, c2, es2, rfl, hm2, hl2, hd2, hv2, hB2⟩; (first | (with_reducible (replace L1 := Lib.hid (L1.out.below hB2))) | (with_reducible (replace L1 := Lib.hid ((L1.out.below (below1 _ (.cells #[.bool false, .slice none 0 0, .int .i64 0] 28))).below hB2))) | (with_reducible (replace L1 := Lib.hid ((L1.out.below (below_2 _ (.cells #[.bool false, .slice none 0 0, .int .i64 0] 28) (.cells #[.bool false, .slice none 0 0, .int .i64 0] 28))).below hB2))) | skip); (first | (with_reducible (replace cur := Lib.hid (cur.out.below hB2))) | (with_reducible (replace cur := Lib.hid (cur.out.one.below hB2))) | (with_reducible (replace cur := Lib.hid (cur.out.two.below hB2))) | (with_reducible (replace cur := Lib.hid (F1.out.below hB2))) | (with_reducible (replace cur := Lib.hid (F2.out.below hB2)))); have L2 : Hid (Mg u2 V2 A2 m2 c2 es2) := ⟨hl2, hd2, hv2⟩; clear hl2 hd2 hv2 hB2; (first | (have kx := cur.out.first; have x0 := kx.c0; have x1 := kx.c1; have x2 := kx.c2; have xf := kx.fz; have xl := kx.lt; clear kx) | skip); (first | (have ky := cur.out.second; have y0 := ky.1.c0; have y1 := ky.1.c1; have y2 := ky.1.c2; have yf := ky.1.fz; have yl := ky.1.lt; have yx := ky.2; clear ky) | skip)))
    all_goals (go_wp2_with fail)
    all_goals go_meet
    all_goals (refine ⟨_, _, m1, c1, m2, c2, A1, A2, es1, es2, rfl, rfl, hm1, hm2, ?_⟩)
    all_goals (first
      | (have t := RelV.new2 (g1 := g1) (E1 := E1) (g2 := g2) (E2 := E2) cur.out L1.out L2.out; (with_reducible exact Lib.hid t))
      | (have t := (RelV.new2 (g1 := g2) (E1 := E2) (g2 := g1) (E2 := E1) cur.out L2.out L1.out).swap; (with_reducible exact Lib.hid t))
      | (have t := RelV.new1 (g1 := g1) (E1 := E1) (g2 := g2) (E2 := E2) cur.out L1.out L2.out; (with_reducible exact Lib.hid t))
      | (have t := (RelV.new1 (g1 := g2) (E1 := E2) (g2 := g1) (E2 := E1) cur.out L2.out L1.out).swap; (with_reducible exact Lib.hid t))
      | (have t := (RelV.new0 (g1 := g1) (E1 := E1) (g2 := g2) (E2 := E2) cur.out L1.out L2.out).1; (with_reducible exact Lib.hid t))
      | (have t := (RelV.new0 (g1 := g1) (E1 := E1) (g2 := g2) (E2 := E2) cur.out L1.out L2.out).2; (with_reducible exact Lib.hid t))
      | (have t := (RelV.new0 (g1 := g2) (E1 := E2) (g2 := g1) (E2 := E1) cur.out L2.out L1.out).1.swap; (with_reducible exact Lib.hid t))
      | (have t := (RelV.new0 (g1 := g2) (E1 := E2) (g2 := g1) (E2 := E1) cur.out L2.out L1.out).2.swap; (with_reducible exact Lib.hid t)))
  case rest =>
    obtain ⟨u0, rfl⟩ : ∃ u0, u0 = wc := ⟨_, rfl⟩
    obtain ⟨p, q, m1, c1, m2, c2, A1, A2, es1, es2, rfl, rfl, hm1, hm2, HR⟩ := hcut
    clear F1 F2 HO1 HO2 cur x1 y1 b1 b2
    have k0 := H0.out.below HR.out.old
    have HB : Hid (Below w.heap.size w w1) := H0.out.old
    have H2 := Lib.hid (HC.out _ k0)
    have x0 := k0.1.c0
    have x1 := k0.1.c1
    have x2 := k0.1.c2
    have y0 := k0.2.1.c0
    have y1 := k0.2.1.c1
    have y2 := k0.2.1.c2
    clear k0 HC
    go_wp2_with fail
    refine H2.out.mono ?_
    rintro e w3 ⟨rfl, hB3⟩
    replace HR := Lib.hid (HR.out.below hB3)
    clear H2 H0 hB3 x0 x1 x2 y0 y1 y2
    have h3 := HR.out
    have x0 := h3.2.1.c0
    have x1 := h3.2.1.c1
    have x2 := h3.2.1.c2
    clear h3
    obtain ⟨f1, hf1⟩ : ∃ f, decide (-1073741824 ≤ E1 ∧ E1 ≤ 1073741824) = f := ⟨_, rfl⟩
    obtain ⟨f2, hf2⟩ : ∃ f, decide (-1073741824 ≤ E2 ∧ E2 ≤ 1073741824) = f := ⟨_, rfl⟩
    obtain ⟨s1, hs1⟩ : ∃ s, sgD g1 V1 = s := ⟨_, rfl⟩
    obtain ⟨s2, hs2⟩ : ∃ s, sgD g2 V2 = s := ⟨_, rfl⟩
    have HF1 : Hid (∀ u, Calls Tryd.prog 12 #[.agg #[.bool g1, .slice A1 m1 c1, .int .i64 E1]] u fun e w' => e = .returned (.bool f1) ∧ Below u.heap.size u w') := fun u => fits_b f1 g1 A1 m1 c1 E1 u hf1
    have HF2 : Hid (∀ u, Calls Tryd.prog 12 #[.agg #[.bool g2, .slice A2 m2 c2, .int .i64 E2]] u fun e w' => e = .returned (.bool f2) ∧ Below u.heap.size u w') := fun u => fits_b f2 g2 A2 m2 c2 E2 u hf2
    have HS1 : Hid (∀ u, RelV w1 p g1 A1 m1 c1 E1 V1 es1 q g2 A2 m2 c2 E2 V2 es2 u → Calls Tryd.prog 18 #[.agg #[.bool g1, .slice A1 m1 c1, .int .i64 E1]] u fun e w' => e = .returned (.int .i64 s1) ∧ Below u.heap.size u w') := fun u hu => rsign_l s1 g1 A1 m1 c1 es1 E1 u hu.mem1.1 hu.mem1.2.1 (by show _ = _; rw [hu.mem1.2.2]; exact hs1)
    have HS2 : Hid (∀ u, RelV w1 p g1 A1 m1 c1 E1 V1 es1 q g2 A2 m2 c2 E2 V2 es2 u → Calls Tryd.prog 18 #[.agg #[.bool g2, .slice A2 m2 c2, .int .i64 E2]] u fun e w' => e = .returned (.int .i64 s2) ∧ Below u.heap.size u w') := fun u hu => rsign_l s2 g2 A2 m2 c2 es2 E2 u hu.mem2.1 hu.mem2.2.1 (by show _ = _; rw [hu.mem2.2.2]; exact hs2)
    have hmm := HM.out
    have hI1 : ∀ o : Option Dy, (if -1073741824 ≤ E1 ∧ E1 ≤ 1073741824 then o else none) = if f1 = true then o else none := fun o => by
      rw [← hf1]; simp
    have hI2 : ∀ o : Option Dy, (if -1073741824 ≤ E2 ∧ E2 ≤ 1073741824 then o else none) = if f2 = true then o else none := fun o => by
      rw [← hf2]; simp
    rw [hI1, hI2] at hmm
    replace HM := Lib.hid hmm
    clear hmm hI1 hI2
    have HFl : Hid (decide (-1073741824 ≤ E1 ∧ E1 ≤ 1073741824) = f1 ∧ decide (-1073741824 ≤ E2 ∧ E2 ≤ 1073741824) = f2) := ⟨hf1, hf2⟩
    have HSl : Hid (sgD g1 V1 = s1 ∧ sgD g2 V2 = s2) := ⟨hs1, hs2⟩
    clear hf1 hf2 hs1 hs2
    have SH : Hid (∀ u, RelV w1 p g1 A1 m1 c1 E1 V1 es1 q g2 A2 m2 c2 E2 V2 es2 u → Below w.heap.size w u) := fun u hu => HB.out.trans (hu.old.mono HB.out.size)
    clear HB
    by_cases hok : f1 = true ∧ f2 = true ∧ 0 < s1 ∧ 0 < s2 ∧ 1 ≤ j
    case neg =>
      obtain ⟨rfl, rfl⟩ : v = 0 ∧ r = 1 := by
        have hm := HM.out.1
        have hs := HSl.out
        cases f1 with
        | false => simp only [Bool.false_eq_true, if_false] at hm; injection hm with a b; exact ⟨a.symm, b.symm⟩
        | true =>
          cases f2 with
          | false => simp only [Bool.false_eq_true, if_false, if_true] at hm; injection hm with a b; exact ⟨a.symm, b.symm⟩
          | true =>
            simp only [if_true] at hm
            unfold cmpR at hm
            simp only at hm
            rw [if_neg (fun h9 => hok ⟨rfl, rfl, by rw [← hs.1]; exact h9.1, by rw [← hs.2]; exact h9.2.1, h9.2.2⟩)] at hm
            injection hm with a b
            exact ⟨a.symm, b.symm⟩
      have g5 : f1 = false ∨ (f1 = true ∧ f2 = false) ∨ (f1 = true ∧ f2 = true ∧ decide (s1 ≤ 0) = true) ∨ (f1 = true ∧ f2 = true ∧ decide (s1 ≤ 0) = false ∧ decide (s2 ≤ 0) = true) ∨ (f1 = true ∧ f2 = true ∧ decide (s1 ≤ 0) = false ∧ decide (s2 ≤ 0) = false ∧ decide (j < 1) = true) := by
        cases f1
        · exact Or.inl rfl
        · cases f2
          · exact Or.inr (Or.inl ⟨rfl, rfl⟩)
          · by_cases z1 : s1 ≤ 0
            · exact Or.inr (Or.inr (Or.inl ⟨rfl, rfl, decide_eq_true z1⟩))
            · by_cases z2 : s2 ≤ 0
              · exact Or.inr (Or.inr (Or.inr (Or.inl ⟨rfl, rfl, decide_eq_false z1, decide_eq_true z2⟩)))
              · exact Or.inr (Or.inr (Or.inr (Or.inr ⟨rfl, rfl, decide_eq_false z1, decide_eq_false z2, decide_eq_true (by have : ¬ 1 ≤ j := fun h9 => hok ⟨rfl, rfl, by omega, by omega, h9⟩; omega)⟩)))
      clear hok HM HFl HSl HE HV
      rcases g5 with rfl | ⟨rfl, rfl⟩ | ⟨rfl, rfl, z1⟩ | ⟨rfl, rfl, z1, z2⟩ | ⟨rfl, rfl, z1, z2, z3⟩
      · go_wp2_with fail
        refine (HF1.out _).mono ?_
        rintro e wa0 ⟨rfl, hB⟩
        replace HR := Lib.hid (HR.out.below hB)
        clear hB x0 x1 x2
        have Hfin := Lib.hid (SH.out _ HR.out)
        clear HR SH HF1 HF2 HS1 HS2
        go_wp2
        go_ret
        exact ⟨rfl, Hfin.out⟩
      · go_wp2_with fail
        refine (HF1.out _).mono ?_
        rintro e wa0 ⟨rfl, hB⟩
        replace HR := Lib.hid (HR.out.below hB)
        clear hB x0 x1 x2
        have x0 := HR.out.2.2.2.1.c0
        have x1 := HR.out.2.2.2.1.c1
        have x2 := HR.out.2.2.2.1.c2
        go_wp2_with fail
        refine (HF2.out _).mono ?_
        rintro e wa1 ⟨rfl, hB⟩
        replace HR := Lib.hid (HR.out.below hB)
        clear hB x0 x1 x2
        have Hfin := Lib.hid (SH.out _ HR.out)
        clear HR SH HF1 HF2 HS1 HS2
        go_wp2
        go_ret
        exact ⟨rfl, Hfin.out⟩
      · go_wp2_with fail
        refine (HF1.out _).mono ?_
        rintro e wa0 ⟨rfl, hB⟩
        replace HR := Lib.hid (HR.out.below hB)
        clear hB x0 x1 x2
        have x0 := HR.out.2.2.2.1.c0
        have x1 := HR.out.2.2.2.1.c1
        have x2 := HR.out.2.2.2.1.c2
        go_wp2_with fail
        refine (HF2.out _).mono ?_
        rintro e wa1 ⟨rfl, hB⟩
        replace HR := Lib.hid (HR.out.below hB)
        clear hB x0 x1 x2
        have x0 := HR.out.2.1.c0
        have x1 := HR.out.2.1.c1
        have x2 := HR.out.2.1.c2
        go_wp2_with fail
        refine (HS1.out _ HR.out).mono ?_
        rintro e wa2 ⟨rfl, hB⟩
        replace HR := Lib.hid (HR.out.below hB)
        clear hB x0 x1 x2
        have Hfin := Lib.hid (SH.out _ HR.out)
        clear HR SH HF1 HF2 HS1 HS2
        go_wp2
        go_ret
        exact ⟨rfl, Hfin.out⟩
      · go_wp2_with fail
        refine (HF1.out _).mono ?_
        rintro e wa0 ⟨rfl, hB⟩
        replace HR := Lib.hid (HR.out.below hB)
        clear hB x0 x1 x2
        have x0 := HR.out.2.2.2.1.c0
        have x1 := HR.out.2.2.2.1.c1
        have x2 := HR.out.2.2.2.1.c2
        go_wp2_with fail
        refine (HF2.out _).mono ?_
        rintro e wa1 ⟨rfl, hB⟩
        replace HR := Lib.hid (HR.out.below hB)
        clear hB x0 x1 x2
        have x0 := HR.out.2.1.c0
        have x1 := HR.out.2.1.c1
        have x2 := HR.out.2.1.c2
        go_wp2_with fail
        refine (HS1.out _ HR.out).mono ?_
        rintro e wa2 ⟨rfl, hB⟩
        replace HR := Lib.hid (HR.out.below hB)
        clear hB x0 x1 x2
        have x0 := HR.out.2.2.2.1.c0
        have x1 := HR.out.2.2.2.1.c1
        have x2 := HR.out.2.2.2.1.c2
        go_wp2_with fail
        refine (HS2.out _ HR.out).mono ?_
        rintro e wa3 ⟨rfl, hB⟩
        replace HR := Lib.hid (HR.out.below hB)
        clear hB x0 x1 x2
        have Hfin := Lib.hid (SH.out _ HR.out)
        clear HR SH HF1 HF2 HS1 HS2
        go_wp2
        go_ret
        exact ⟨rfl, Hfin.out⟩
      · go_wp2_with fail
        refine (HF1.out _).mono ?_
        rintro e wa0 ⟨rfl, hB⟩
        replace HR := Lib.hid (HR.out.below hB)
        clear hB x0 x1 x2
        have x0 := HR.out.2.2.2.1.c0
        have x1 := HR.out.2.2.2.1.c1
        have x2 := HR.out.2.2.2.1.c2
        go_wp2_with fail
        refine (HF2.out _).mono ?_
        rintro e wa1 ⟨rfl, hB⟩
        replace HR := Lib.hid (HR.out.below hB)
        clear hB x0 x1 x2
        have x0 := HR.out.2.1.c0
        have x1 := HR.out.2.1.c1
        have x2 := HR.out.2.1.c2
        go_wp2_with fail
        refine (HS1.out _ HR.out).mono ?_
        rintro e wa2 ⟨rfl, hB⟩
        replace HR := Lib.hid (HR.out.below hB)
        clear hB x0 x1 x2
        have x0 := HR.out.2.2.2.1.c0
        have x1 := HR.out.2.2.2.1.c1
        have x2 := HR.out.2.2.2.1.c2
        go_wp2_with fail
        refine (HS2.out _ HR.out).mono ?_
        rintro e wa3 ⟨rfl, hB⟩
        replace HR := Lib.hid (HR.out.below hB)
        clear hB x0 x1 x2
        have Hfin := Lib.hid (SH.out _ HR.out)
        clear HR SH HF1 HF2 HS1 HS2
        go_wp2
        go_ret
        exact ⟨rfl, Hfin.out⟩
    case pos =>
      obtain ⟨rfl, rfl, z1, z2, hj⟩ := hok
      obtain ⟨jj, rfl⟩ : ∃ jj : Nat, j = (jj : Int) := ⟨j.toNat, by omega⟩
      have d1 : decide (s1 ≤ 0) = false := decide_eq_false (by omega)
      have d2 : decide (s2 ≤ 0) = false := decide_eq_false (by omega)
      have d3 : decide ((jj : Int) < 1) = false := decide_eq_false (by omega)
      obtain ⟨n1, rfl⟩ := sgD_above (by rw [HSl.out.1]; exact z1)
      obtain ⟨n2, rfl⟩ := sgD_above (by rw [HSl.out.2]; exact z2)
      have hm := HM.out
      simp only [if_true] at hm
      unfold cmpR at hm
      simp only at hm
      rw [if_pos ⟨by rw [HSl.out.1]; exact z1, by rw [HSl.out.2]; exact z2, hj⟩, Int.toNat_natCast] at hm
      unfold fitO at hm
      simp only at hm
      obtain ⟨t1, ht1⟩ : ∃ t, fitB V1 E1 i = t := ⟨_, rfl⟩
      obtain ⟨t2, ht2⟩ : ∃ t, fitB V2 E2 (jj : Int) = t := ⟨_, rfl⟩
      rw [ht1, ht2] at hm
      obtain ⟨hm0, hm1', hm2'⟩ := hm
      have HL1 : Hid (∀ u, RelV w1 p false A1 m1 c1 E1 V1 es1 q false A2 m2 c2 E2 V2 es2 u → Calls Tryd.prog 11 #[.agg #[.bool false, .slice A1 m1 c1, .int .i64 E1], .int .i64 i] u fun e w' => e = .returned (.bool t1) ∧ Below u.heap.size u w') := fun u hu => lfits_l t1 false A1 m1 c1 es1 E1 i u hu.mem1.1 hu.mem1.2.1 (by omega) HE.out.1 HE.out.2.1 (by show _ = _; rw [hu.mem1.2.2]; exact hm1')
      have HL2 : Hid (∀ u, RelV w1 p false A1 m1 c1 E1 V1 es1 q false A2 m2 c2 E2 V2 es2 u → Calls Tryd.prog 11 #[.agg #[.bool false, .slice A2 m2 c2, .int .i64 E2], .int .i64 (jj : Int)] u fun e w' => e = .returned (.bool t2) ∧ Below u.heap.size u w') := fun u hu => lfits_l t2 false A2 m2 c2 es2 E2 jj u hu.mem2.1 hu.mem2.2.1 (by omega) HE.out.2.2.1 HE.out.2.2.2 (by show _ = _; rw [hu.mem2.2.2]; exact hm2')
      have HT12 : Hid (fitB V1 E1 i = t1 ∧ fitB V2 E2 (jj : Int) = t2) := ⟨ht1, ht2⟩
      have HM0 := Lib.hid hm0
      have HN : Hid (V1 ≠ 0 ∧ V2 ≠ 0) := ⟨n1, n2⟩
      clear HM HSl HFl z1 z2 hm1' hm2' ht1 ht2 hm0 n1 n2
      go_wp2_with fail
      refine (HF1.out _).mono ?_
      rintro e wa0 ⟨rfl, hB⟩
      replace HR := Lib.hid (HR.out.below hB)
      clear hB x0 x1 x2
      have x0 := HR.out.2.2.2.1.c0
      have x1 := HR.out.2.2.2.1.c1
      have x2 := HR.out.2.2.2.1.c2
      go_wp2_with fail
      refine (HF2.out _).mono ?_
      rintro e wa1 ⟨rfl, hB⟩
      replace HR := Lib.hid (HR.out.below hB)
      clear hB x0 x1 x2
      have x0 := HR.out.2.1.c0
      have x1 := HR.out.2.1.c1
      have x2 := HR.out.2.1.c2
      go_wp2_with fail
      refine (HS1.out _ HR.out).mono ?_
      rintro e wa2 ⟨rfl, hB⟩
      replace HR := Lib.hid (HR.out.below hB)
      clear hB x0 x1 x2
      have x0 := HR.out.2.2.2.1.c0
      have x1 := HR.out.2.2.2.1.c1
      have x2 := HR.out.2.2.2.1.c2
      go_wp2_with fail
      refine (HS2.out _ HR.out).mono ?_
      rintro e wa3 ⟨rfl, hB⟩
      replace HR := Lib.hid (HR.out.below hB)
      clear hB x0 x1 x2
      have x0 := HR.out.2.1.c0
      have x1 := HR.out.2.1.c1
      have x2 := HR.out.2.1.c2
      clear HF1 HF2 HS1 HS2
      go_wp2_with fail
      refine (HL1.out _ HR.out).mono ?_
      rintro e wb1 ⟨rfl, hB⟩
      replace HR := Lib.hid (HR.out.below hB)
      clear hB x0 x1 x2
      have x0 := HR.out.2.2.2.1.c0
      have x1 := HR.out.2.2.2.1.c1
      have x2 := HR.out.2.2.2.1.c2
      clear HL1
      cases t1 with
      | false =>
        obtain ⟨rfl, rfl⟩ : v = 0 ∧ r = 2 := by have hm := HM0.out; injection hm with a b; exact ⟨a.symm, b.symm⟩
        have Hfin := Lib.hid (SH.out _ HR.out)
        clear HR SH HL2 HM0 HT12 HE HV HN x0 x1 x2
        go_wp2
        go_ret
        exact ⟨rfl, Hfin.out⟩
      | true =>
        go_wp2_with fail
        refine (HL2.out _ HR.out).mono ?_
        rintro e wb2 ⟨rfl, hB⟩
        replace HR := Lib.hid (HR.out.below hB)
        clear hB x0 x1 x2
        have x0 := HR.out.2.1.c0
        have x1 := HR.out.2.1.c1
        have x2 := HR.out.2.1.c2
        clear HL2
        cases t2 with
        | false =>
          obtain ⟨rfl, rfl⟩ : v = 0 ∧ r = 2 := by have hm := HM0.out; injection hm with a b; exact ⟨a.symm, b.symm⟩
          have Hfin := Lib.hid (SH.out _ HR.out)
          clear HR SH HM0 HT12 HE HV HN x0 x1 x2
          go_wp2
          go_ret
          exact ⟨rfl, Hfin.out⟩
        | true =>
          obtain ⟨hr, rfl⟩ : ratC V1 E1 i V2 E2 jj = v ∧ r = 0 := by have hm := HM0.out; injection hm with a b; exact ⟨a, b.symm⟩
          obtain ⟨u1, u2⟩ := HT12.out
          unfold fitB at u1 u2
          rw [Bool.and_eq_true] at u1 u2
          have fa := of_decide_eq_true u1.1
          have fb := of_decide_eq_true u1.2
          have fc := of_decide_eq_true u2.1
          have fd := of_decide_eq_true u2.2
          rw [Int.natAbs_natCast] at fc fd
          have hcb : -1 ≤ v ∧ v ≤ 1 := by
            rw [← hr]; unfold ratC; split <;> exact cq_bd _ _ _ _
          obtain ⟨B1, hB1⟩ : ∃ b, blen V1 = b := ⟨_, rfl⟩
          obtain ⟨B2, hB2⟩ : ∃ b, blen V2 = b := ⟨_, rfl⟩
          obtain ⟨s, hs⟩ : ∃ s, lsz i = s := ⟨_, rfl⟩
          have hs9 := lsz_le i
          rw [hs] at hs9
          obtain ⟨hV1, hV2⟩ := HV.out
          rw [hB1] at hV1
          rw [hB2] at hV2
          obtain ⟨P, hP⟩ : ∃ P, B1 * s = P := ⟨_, rfl⟩
          obtain ⟨Q, hQ⟩ : ∃ Q, B2 * jj = Q := ⟨_, rfl⟩
          have eP : (B1 : Int) * (s : Int) = (P : Int) := by rw [← hP]; exact (Int.natCast_mul _ _).symm
          have eQ : (B2 : Int) * (jj : Int) = (Q : Int) := by rw [← hQ]; exact (Int.natCast_mul _ _).symm
          have hP9 : P ≤ 640 * 100000 := by rw [← hP]; exact Nat.mul_le_mul hV1 hs9
          have hQ9 : Q ≤ 60000 := by rw [← hQ, ← hB2]; exact fc
          have HBt1 : Hid (∀ u, RelV w1 p false A1 m1 c1 E1 V1 es1 q false A2 m2 c2 E2 V2 es2 u → Calls Tryd.prog 13 #[.agg #[.bool false, .slice A1 m1 c1, .int .i64 E1]] u fun e w' => e = .returned (.int .i64 (B1 : Int)) ∧ Below u.heap.size u w') := fun u hu => lbits_l B1 false A1 m1 c1 es1 E1 u hu.mem1.1 hu.mem1.2.1 (by omega) HE.out.1 HE.out.2.1 (by show _ = _; rw [hu.mem1.2.2]; exact hB1)
          have HBt2 : Hid (∀ u, RelV w1 p false A1 m1 c1 E1 V1 es1 q false A2 m2 c2 E2 V2 es2 u → Calls Tryd.prog 13 #[.agg #[.bool false, .slice A2 m2 c2, .int .i64 E2]] u fun e w' => e = .returned (.int .i64 (B2 : Int)) ∧ Below u.heap.size u w') := fun u hu => lbits_l B2 false A2 m2 c2 es2 E2 u hu.mem2.1 hu.mem2.2.1 (by omega) HE.out.2.2.1 HE.out.2.2.2 (by show _ = _; rw [hu.mem2.2.2]; exact hB2)
          have HSz : Hid (∀ u, Calls Tryd.prog 19 #[.int .i64 i] u fun e w' => e = .returned (.int .i64 (s : Int)) ∧ u = w') := fun u => lsize_l i s u hs
          obtain ⟨n1, n2⟩ := HN.out
          have nb1 : 1 ≤ B1 := by
            rcases Nat.eq_zero_or_pos B1 with h9 | h9
            · rw [h9] at hB1; exact absurd (blen_zero_iff.1 hB1) n1
            · exact h9
          have nb2 : 1 ≤ B2 := by
            rcases Nat.eq_zero_or_pos B2 with h9 | h9
            · rw [h9] at hB2; exact absurd (blen_zero_iff.1 hB2) n2
            · exact h9
          have HCm : Hid (P ≤ 3000 → Q ≤ 3000 → ∀ u, RelV w1 p false A1 m1 c1 E1 V1 es1 q false A2 m2 c2 E2 V2 es2 u → Calls Tryd.prog 20 #[.agg #[.bool false, .slice A1 m1 c1, .int .i64 E1], .int .i64 i, .agg #[.bool false, .slice A2 m2 c2, .int .i64 E2], .int .i64 (jj : Int)] u fun e w' => e = .returned (.int .i64 v) ∧ Below u.heap.size u w') := fun hp hq u hu => by
            have hs3 : s ≤ 3000 := by
              have h9 := Nat.mul_le_mul_right s nb1
              omega
            have hia : i.natAbs = s := by
              rw [← hs]
              have h9 := hs
              unfold lsz at h9 ⊢
              split
              · rename_i h8
                rw [if_pos h8] at h9
                omega
              · rfl
            have hj3 : jj ≤ 3000 := by
              have h9 := Nat.mul_le_mul_right jj nb2
              omega
            exact cmp10_l v V1 E1 A1 m1 c1 es1 i V2 E2 A2 m2 c2 es2 jj u hu.mem1.1 hu.mem2.1 hu.mem1.2.1 hu.mem2.2.1 (by omega) (by omega) hu.mem1.2.2 hu.mem2.2.2 (by omega) (by omega) (by omega) (by omega) (by omega) (by rw [hB1, hia, hP]; exact hp) (by rw [hB2, hQ]; exact hq) fb fd hr
          have v1 := hcb.1
          have v2 := hcb.2
          clear HM0 HT12 HE HV HN u1 u2 fa fb fc fd hcb hB1 hB2 hs hP hQ n1 n2 nb1 nb2 hr hV1 hV2
          go_wp2_with fail
          refine (HBt1.out _ HR.out).mono ?_
          rintro e wc1 ⟨rfl, hB⟩
          replace HR := Lib.hid (HR.out.below hB)
          clear hB x0 x1 x2
          have x0 := HR.out.2.2.2.1.c0
          have x1 := HR.out.2.2.2.1.c1
          have x2 := HR.out.2.2.2.1.c2
          clear HBt1
          go_wp2_with fail
          refine (HSz.out _).mono ?_
          rintro e w' ⟨rfl, rfl⟩
          clear HSz
          by_cases hp : P ≤ 3000
          case neg =>
            have dp : decide ((3000 : Int) < (P : Int)) = true := decide_eq_true (by omega)
            have dv1 : decide (-1 ≤ v) = true := decide_eq_true v1
            have dv2 : decide (v ≤ 1) = true := decide_eq_true v2
            have Hfin := Lib.hid (SH.out _ HR.out)
            clear HR SH HBt2 HCm x0 x1 x2 hp v1 v2
            go_wp2
            go_ret
            exact ⟨rfl, Hfin.out⟩
          case pos =>
            have dp : decide ((3000 : Int) < (P : Int)) = false := decide_eq_false (by omega)
            go_wp2_with fail
            refine (HBt2.out _ HR.out).mono ?_
            rintro e wc2 ⟨rfl, hB⟩
            replace HR := Lib.hid (HR.out.below hB)
            clear hB x0 x1 x2
            clear HBt2
            by_cases hq : Q ≤ 3000
            case neg =>
              have dq : decide ((3000 : Int) < (Q : Int)) = true := decide_eq_true (by omega)
              have dv1 : decide (-1 ≤ v) = true := decide_eq_true v1
              have dv2 : decide (v ≤ 1) = true := decide_eq_true v2
              have Hfin := Lib.hid (SH.out _ HR.out)
              clear HR SH HCm hp hq v1 v2
              go_wp2
              go_ret
              exact ⟨rfl, Hfin.out⟩
            case pos =>
              have dq : decide ((3000 : Int) < (Q : Int)) = false := decide_eq_false (by omega)
              have H9 := Lib.hid (HCm.out hp hq _ HR.out)
              have x0 := HR.out.2.1.c0
              have x1 := HR.out.2.1.c1
              have x2 := HR.out.2.1.c2
              have y0 := HR.out.2.2.2.1.c0
              have y1 := HR.out.2.2.2.1.c1
              have y2 := HR.out.2.2.2.1.c2
              clear HCm hp hq v1 v2
              go_wp2_with fail
              refine H9.out.mono ?_
              rintro e w9 ⟨rfl, hB⟩
              replace HR := Lib.hid (HR.out.below hB)
              have Hfin := Lib.hid (SH.out _ HR.out)
              clear HR SH H9 hB x0 x1 x2 y0 y1 y2
              go_wp2
              go_ret
              exact ⟨rfl, Hfin.out⟩

theorem walk_ratioCmps (g : Bool) (A : Option Addr) (n c : Nat) (xs : List Nat) (e1 i : Int) (k : Bool) (B : Option Addr) (m d : Nat) (ys : List Nat) (e2 j : Int) (w : World) (hT : Tab w) (hA : Lim w A n c xs) (hi1 : -9223372036854775808 ≤ i) (hi2 : i ≤ 9223372036854775807) (hB : Lim w B m d ys) (hj1 : -9223372036854775808 ≤ j) (hj2 : j ≤ 9223372036854775807) :
    Calls Tryd.prog 4 #[.agg #[.bool g, .slice A n c, .int .i64 e1], .int .i64 i, .agg #[.bool k, .slice B m d, .int .i64 e2], .int .i64 j] w fun e w' => e = .returned (.bool true) ∧ Below w.heap.size w w' := by
  by_cases h : 10 < n ∨ 10 < m
  · exact cmps_long g A n c e1 i k B m d e2 j w hT h
  · exact cmps_short g A n c xs e1 i k B m d ys e2 j w hT hA hB (by omega) (by omega) hi1 hi2 hj1 hj2
end Go.Proofs.YteflihpnhgicfaaDoor
