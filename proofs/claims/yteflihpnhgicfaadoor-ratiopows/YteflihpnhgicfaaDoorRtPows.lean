/- The walk of the law RatioPows (written by law_rpows.py). -/
import Derived.Test.YteflihpnhgicfaaDoorRtTwo
import Derived.Test.YteflihpnhgicfaaDoorRtRefN
import Derived.Test.YteflihpnhgicfaaDoorRtTo
import Derived.Test.YteflihpnhgicfaaDoorRtAlive
import Derived.Test.YteflihpnhgicfaaDoorK3
namespace Go.Proofs.YteflihpnhgicfaaDoor
open Go.RowKit

theorem pow10_any (M : Nat) (g : Bool) (V : Nat) (E : Int) (A : Option Addr) (n c : Nat) (ds : List Nat) (m : Nat) (w : World) (hA : Dig w A n c ds) (hb : D.Bare ds) (hV : D.val ds = V) (hV1 : 1 ≤ V) (hn : n ≤ 10000) (hm : m ≤ 1000000000) (hM : M ≤ 10000) (hlt : V ^ m < D.pw M) (h1 : -1073741824 ≤ E * m) (h2 : E * m ≤ 1073741824) :
    Calls Tryd.prog 16 #[.agg #[.bool g, .slice A n c, .int .i64 E], .int .i64 (m : Int)] w (NTold w (powD ⟨g, V, E⟩ m) M) := by
  cases g
  · exact pow10_pos M V E A n c ds m w hA hb hV hV1 hn hm hM hlt h1 h2
  · by_cases hr : m % 2 = 1
    · exact pow10_odd M V E A n c ds m w hA hb hV hV1 hn hm hM hlt h1 h2 hr
    · exact pow10_even M V E A n c ds m w hA hb hV hV1 hn hm hM hlt h1 h2 hr
theorem mk_if_ {g : Bool} {V : Nat} {e : Int} {d : Dy} (h : nO g V e = d) : mk g V e = if -1073741824 ≤ d.e ∧ d.e ≤ 1073741824 then some d else none := by
  rw [mk_nO, h]
  have ho := nO_odd g V e
  rw [h] at ho
  unfold toldD
  rcases ho with ⟨k, hk⟩ | ho
  · rw [if_neg (by omega)]
    by_cases h1 : -1073741824 ≤ d.e ∧ d.e ≤ 1073741824
    · rw [if_pos h1, if_neg (by omega)]
    · rw [if_neg h1, if_pos (by omega)]
  · subst ho; rfl
theorem nO_ebd_ {g : Bool} {V : Nat} {e : Int} {d : Dy} (h : nO g V e = d) (hb : blen V ≤ 100000) : -4294967296 ≤ d.e ∧ d.e ≤ 4294967296 := by
  by_cases h0 : V = 0
  · subst h0; rw [← h, nO_zero]; decide
  · rw [← h, nO_pos _ _ h0]
    have h1 := held_bd e
    have h2 := low_le_blen V
    constructor
    · show -4294967296 ≤ held e + low V; omega
    · show held e + low V ≤ 4294967296; omega
theorem nO_vbd_ {g : Bool} {V : Nat} {e : Int} {d : Dy} (h : nO g V e = d) : blen d.V ≤ blen V := by
  by_cases h0 : V = 0
  · subst h0; rw [← h, nO_zero]; exact Nat.le_refl _
  · rw [← h, nO_pos _ _ h0]
    exact blen_mono (Nat.div_le_self _ _)
theorem lim_nil {w : World} {A : Option Addr} {n c : Nat} {xs : List Nat} (h : Lim w A n c xs) (hb : Bare xs) (hv : val xs = 0) : n = 0 := by
  have h1 : xs = [] := bare_eq h.words Words.nil hb rfl (by rw [hv]; rfl)
  rw [← h.len, h1]; rfl
theorem pow_below {V m K : Nat} (h : blen V * m < 16 * K) : V ^ m < D.pw K := by
  rw [D.pw_two]
  exact Nat.lt_of_le_of_lt (pow_bits V m) (Nat.pow_lt_pow_right (by decide) h)
theorem pow_188 {V m : Nat} (h : blen V * m ≤ 3000) : V ^ m < D.pw 188 := pow_below (by omega)
theorem powR_arg {o : Option Dy} {m : Int} (h : o = none ∨ m < 0) : powR o m = (⟨false, 0, 0⟩, 1) := by
  unfold powR
  cases o with
  | none => rfl
  | some d => simp only; rw [if_pos (by rcases h with h | h; cases h; exact h)]

/-- While the law is walked: the dyad in its box, the document's number, the power. -/
def HoldPw (w : World) (g : Bool) (A : Option Addr) (n c : Nat) (xs : List Nat) (e0 : Int) (pn : Nat) (g1 : Bool) (A1 : Option Addr) (m1 c1 : Nat) (E1 : Int) (V1 : Nat) (es1 : List Nat) (pp : Nat) (pg : Bool) (A2 : Option Addr) (m2 c2 : Nat) (pE : Int) (zs : List Nat) (u : World) : Prop :=
  Bd u w.heap.size 24 g A n c e0 ∧ Bd u pn 28 g1 A1 m1 c1 E1 ∧ Bd u pp 30 pg A2 m2 c2 pE ∧ Lim u A n c xs ∧ Mg u V1 A1 m1 c1 es1 ∧ Lim u A2 m2 c2 zs ∧ Tab u ∧ Below w.heap.size w u
section
variable {w : World} {g : Bool} {A : Option Addr} {n c : Nat} {xs : List Nat} {e0 : Int} {pn : Nat} {g1 : Bool} {A1 : Option Addr} {m1 c1 : Nat} {E1 : Int} {V1 : Nat} {es1 : List Nat} {pp : Nat} {pg : Bool} {A2 : Option Addr} {m2 c2 : Nat} {pE : Int} {zs : List Nat} {u u' : World}
theorem HoldPw.below (q : HoldPw w g A n c xs e0 pn g1 A1 m1 c1 E1 V1 es1 pp pg A2 m2 c2 pE zs u) (hb : Below u.heap.size u u') : HoldPw w g A n c xs e0 pn g1 A1 m1 c1 E1 V1 es1 pp pg A2 m2 c2 pE zs u' := by
  obtain ⟨h1, h2, h3, h4, h5, h6, h7, h8⟩ := q
  exact ⟨h1.below hb, h2.below hb, h3.below hb, h4.below hb, h5.below hb, h6.below hb, h7.below hb, h8.trans (hb.mono h8.size)⟩
theorem HoldPw.six (q : HoldPw w g A n c xs e0 pn g1 A1 m1 c1 E1 V1 es1 pp pg A2 m2 c2 pE zs u) : Six u w.heap.size g A n c e0 pn g1 A1 m1 c1 E1 := q.1.six q.2.1
theorem HoldPw.l1 (q : HoldPw w g A n c xs e0 pn g1 A1 m1 c1 E1 V1 es1 pp pg A2 m2 c2 pE zs u) : Lim u A n c xs := q.2.2.2.1
theorem HoldPw.mg (q : HoldPw w g A n c xs e0 pn g1 A1 m1 c1 E1 V1 es1 pp pg A2 m2 c2 pE zs u) : Mg u V1 A1 m1 c1 es1 := q.2.2.2.2.1
theorem HoldPw.l2 (q : HoldPw w g A n c xs e0 pn g1 A1 m1 c1 E1 V1 es1 pp pg A2 m2 c2 pE zs u) : Lim u A2 m2 c2 zs := q.2.2.2.2.2.1
theorem HoldPw.tab_ (q : HoldPw w g A n c xs e0 pn g1 A1 m1 c1 E1 V1 es1 pp pg A2 m2 c2 pE zs u) : Tab u := q.2.2.2.2.2.2.1
theorem HoldPw.old (q : HoldPw w g A n c xs e0 pn g1 A1 m1 c1 E1 V1 es1 pp pg A2 m2 c2 pE zs u) : Below w.heap.size w u := q.2.2.2.2.2.2.2
end

set_option maxHeartbeats 1000000 in
set_option maxRecDepth 20000 in
theorem pows_long (g : Bool) (A : Option Addr) (n c : Nat) (e0 m : Int) (w : World) (hT : Tab w) (hl : 20 < n) :
    Calls Tryd.prog 3 #[.agg #[.bool g, .slice A n c, .int .i64 e0], .int .i64 m] w fun e w' => e = .returned (.bool true) ∧ Below w.heap.size w w' := by
  have a1 := below1 w (.cells #[.bool g, .slice A n c, .int .i64 e0] 24)
  have H1 := Lib.hid (ralive_any _ (hT.below a1))
  have Hb := Lib.hid (Bd.new w 24 g A n c e0)
  have HS := Lib.hid a1
  have b1 : decide ((20 : Int) < (n : Int)) = true := decide_eq_true (by omega)
  clear a1 hT hl
  go_enter Tryd.func3, Tryd.ntmps3
  go_wp2_with fail
  refine H1.out.mono ?_
  rintro e w1 ⟨rfl, hB1⟩
  have x1 := (Hb.out.below hB1).c1
  have Hfin := Lib.hid (HS.out.trans (hB1.mono HS.out.size))
  clear hB1 H1 HS Hb
  go_wp2
  go_ret
  exact ⟨rfl, Hfin.out⟩

set_option maxHeartbeats 1500000 in
set_option maxRecDepth 20000 in
theorem pows_short (g : Bool) (A : Option Addr) (n c : Nat) (xs : List Nat) (e0 m : Int) (w : World) (hT : Tab w) (hA : Lim w A n c xs) (hn : n ≤ 20) (hi1 : -9223372036854775808 ≤ m) (hi2 : m ≤ 9223372036854775807) :
    Calls Tryd.prog 3 #[.agg #[.bool g, .slice A n c, .int .i64 e0], .int .i64 m] w fun e w' => e = .returned (.bool true) ∧ Below w.heap.size w w' := by
  have a1 := below1 w (.cells #[.bool g, .slice A n c, .int .i64 e0] 24)
  have H1 := Lib.hid (ralive_any _ (hT.below a1))
  have hbl := hA.blen_le
  obtain ⟨⟨g1, V1, E1⟩, hd⟩ : ∃ d, nO g (val xs) e0 = d := ⟨_, rfl⟩
  have he := nO_ebd_ hd (by omega)
  have hv := nO_vbd_ hd
  have hmk := mk_if_ hd
  have ho := nO_odd g (val xs) e0
  have lf := lawfit_O g (val xs) e0 m
  rw [hd] at lf ho
  simp only at he hv hmk lf
  obtain ⟨⟨P, r⟩, hP⟩ : ∃ x, powR (mk g (val xs) e0) m = x := ⟨_, rfl⟩
  obtain ⟨F, hF⟩ : ∃ F, fitO (mk g (val xs) e0) m = F := ⟨_, rfl⟩
  have HB0 : Hid (Bd (w.alloc (.cells #[.bool g, .slice A n c, .int .i64 e0] 24)) w.heap.size 24 g A n c e0 ∧ Lim (w.alloc (.cells #[.bool g, .slice A n c, .int .i64 e0] 24)) A n c xs ∧ Tab (w.alloc (.cells #[.bool g, .slice A n c, .int .i64 e0] 24)) ∧ Below w.heap.size w (w.alloc (.cells #[.bool g, .slice A n c, .int .i64 e0] 24))) := ⟨Bd.new w _ _ _ _ _ _, hA.below a1, hT.below a1, a1⟩
  have HOf : Hid (∀ u, Lim u A n c xs → Calls Tryd.prog 8 #[.agg #[.bool g, .slice A n c, .int .i64 e0]] u (NTold u ⟨g1, V1, E1⟩ 80)) := fun u hu => by
    have h := rof_any g A n c xs e0 u hu (by omega)
    rw [hd] at h
    exact h.mono fun _ _ ⟨A1, m1, c1, ds1, q1, q2, q3⟩ => ⟨A1, m1, c1, ds1, q1, by omega, q3⟩
  have HPw : Hid (∀ u, Lim u A n c xs → Tab u → Calls Tryd.prog 9 #[.agg #[.bool g, .slice A n c, .int .i64 e0], .int .i64 m] u (ToldR u P r)) := fun u h1 h2 => rpow_l P r g A n c xs e0 m u h1 (by omega) h2 hi1 hi2 hP
  have HFt : Hid (∀ u, Lim u A n c xs → Tab u → Calls Tryd.prog 10 #[.agg #[.bool g, .slice A n c, .int .i64 e0], .int .i64 m] u fun e w' => e = .returned (.bool F) ∧ Below u.heap.size u w') := fun u h1 h2 => rfits_l F g A n c xs e0 m u h1 (by omega) h2 hi1 hi2 hF
  rw [hF] at lf
  rw [hmk] at hP hF
  have HM : Hid (powR (if -1073741824 ≤ E1 ∧ E1 ≤ 1073741824 then some ⟨g1, V1, E1⟩ else none) m = (P, r) ∧ fitO (if -1073741824 ≤ E1 ∧ E1 ≤ 1073741824 then some ⟨g1, V1, E1⟩ else none) m = F ∧ lawfit V1 E1 m = F ∧ Odd ⟨g1, V1, E1⟩ ∧ -4294967296 ≤ E1 ∧ E1 ≤ 4294967296 ∧ blen V1 ≤ 1280) := ⟨hP, hF, lf, ho, he.1, he.2, by omega⟩
  have b1 : decide ((20 : Int) < (n : Int)) = false := decide_eq_false (by omega)
  obtain ⟨pg, pV, pE⟩ := P
  clear a1 hT hA hbl hd he hv hmk ho lf hP hF
  go_enter Tryd.func3, Tryd.ntmps3
  go_wp2_with fail
  refine H1.out.mono ?_
  rintro e w1 ⟨rfl, hB1⟩
  obtain ⟨c1, c2, c3, c4⟩ := HB0.out
  replace HB0 : Hid (Bd w1 w.heap.size 24 g A n c e0 ∧ Lim w1 A n c xs ∧ Tab w1 ∧ Below w.heap.size w w1) := ⟨c1.below hB1, c2.below hB1, c3.below hB1, c4.trans (hB1.mono c4.size)⟩
  have x0 := HB0.out.1.c0
  have x1 := HB0.out.1.c1
  have x2 := HB0.out.1.c2
  clear hB1 H1 c1 c2 c3 c4
  go_wp2_with fail
  refine (HOf.out _ HB0.out.2.1).mono ?_
  rintro e w2 ⟨A1, m1, c1, es1, rfl, hm1, hl1, hb1, hv1, hB2⟩
  have k2 := hB2.trans ((below1 w2 (.cells #[.bool g1, .slice A1 m1 c1, .int .i64 E1] 28)).mono hB2.size)
  obtain ⟨d1, d2, d3, d4⟩ := HB0.out
  replace HB0 : Hid (Bd (w2.alloc (.cells #[.bool g1, .slice A1 m1 c1, .int .i64 E1] 28)) w.heap.size 24 g A n c e0 ∧ Lim (w2.alloc (.cells #[.bool g1, .slice A1 m1 c1, .int .i64 E1] 28)) A n c xs ∧ Tab (w2.alloc (.cells #[.bool g1, .slice A1 m1 c1, .int .i64 E1] 28)) ∧ Below w.heap.size w (w2.alloc (.cells #[.bool g1, .slice A1 m1 c1, .int .i64 E1] 28))) := ⟨d1.below k2, d2.below k2, d3.below k2, d4.trans (k2.mono d4.size)⟩
  have HN : Hid (Bd (w2.alloc (.cells #[.bool g1, .slice A1 m1 c1, .int .i64 E1] 28)) w2.heap.size 28 g1 A1 m1 c1 E1 ∧ Mg (w2.alloc (.cells #[.bool g1, .slice A1 m1 c1, .int .i64 E1] 28)) V1 A1 m1 c1 es1) := ⟨Bd.new w2 _ _ _ _ _ _, hl1.alloc _, hb1, hv1⟩
  clear hB2 hl1 hb1 hv1 k2 d1 d2 d3 d4 x0 x1 x2 HOf
  have x0 := HB0.out.1.c0
  have x1 := HB0.out.1.c1
  have x2 := HB0.out.1.c2
  go_wp2_with fail
  refine (HPw.out _ HB0.out.2.1 HB0.out.2.2.1).mono ?_
  rintro e w3 ⟨A2, m2, c2, zs, rfl, hm2, hl2, hb2, hv2, hB3⟩
  simp only at hv2
  have k3 := hB3.trans ((below1 w3 (.cells #[.bool pg, .slice A2 m2 c2, .int .i64 pE] 30)).mono hB3.size)
  obtain ⟨d1, d2, d3, d4⟩ := HB0.out
  have h3 : HoldPw w g A n c xs e0 w2.heap.size g1 A1 m1 c1 E1 V1 es1 w3.heap.size pg A2 m2 c2 pE zs (w3.alloc (.cells #[.bool pg, .slice A2 m2 c2, .int .i64 pE] 30)) :=
    ⟨d1.below k3, HN.out.1.below k3, Bd.new w3 _ _ _ _ _ _, d2.below k3, HN.out.2.below k3, hl2.alloc _, d3.below k3, d4.trans (k3.mono d4.size)⟩
  have HZ : Hid (Bare zs ∧ val zs = pV) := ⟨hb2, hv2⟩
  have K0 := Lib.hid (h3.below (below_drew _))
  clear hB3 hl2 hb2 hv2 k3 d1 d2 d3 d4 x0 x1 x2 HB0 HN HPw h3
  have HF2 : Hid (∀ u, HoldPw w g A n c xs e0 w2.heap.size g1 A1 m1 c1 E1 V1 es1 w3.heap.size pg A2 m2 c2 pE zs u → Calls Tryd.prog 10 #[.agg #[.bool g, .slice A n c, .int .i64 e0], .int .i64 m] u fun e w' => e = .returned (.bool F) ∧ Below u.heap.size u w') := fun u hu => HFt.out u hu.l1 hu.tab_
  have HLf : Hid (∀ u, HoldPw w g A n c xs e0 w2.heap.size g1 A1 m1 c1 E1 V1 es1 w3.heap.size pg A2 m2 c2 pE zs u → Calls Tryd.prog 11 #[.agg #[.bool g1, .slice A1 m1 c1, .int .i64 E1], .int .i64 m] u fun e w' => e = .returned (.bool F) ∧ Below u.heap.size u w') := fun u hu => lfits_l F g1 A1 m1 c1 es1 E1 m u hu.mg.1 hu.mg.2.1 (by omega) HM.out.2.2.2.2.1 HM.out.2.2.2.2.2.1 (by show _ = _; rw [hu.mg.2.2]; exact HM.out.2.2.1)
  clear HFt
  go_wp2_with fail
  go_region_held3 (fun u => Six u w.heap.size g A n c e0 w2.heap.size g1 A1 m1 c1 E1)
    (first | (with_reducible exact K0.out.six) | (with_reducible exact K1.out.six) | (with_reducible exact K2.out.six))
    (first
      | (go_at_call 10; (with_reducible refine (HF2.out _ K0.out).mono ?_); rintro e w4 ⟨rfl, hB4⟩; have K1 := Lib.hid (K0.out.below hB4); clear hB4)
      | (go_at_call 11; (with_reducible refine (HLf.out _ K1.out).mono ?_); rintro e w5 ⟨rfl, hB5⟩; have K2 := Lib.hid (K1.out.below hB5); clear hB5))
  have H0 := K2
  clear K0 K1 K2 HF2
  have bF : (F == F) = true := by simp
  obtain ⟨f1, hf1⟩ : ∃ f, decide (-1073741824 ≤ E1 ∧ E1 ≤ 1073741824) = f := ⟨_, rfl⟩
  have HFi : Hid (∀ u, Calls Tryd.prog 12 #[.agg #[.bool g1, .slice A1 m1 c1, .int .i64 E1]] u fun e w' => e = .returned (.bool f1) ∧ Below u.heap.size u w') := fun u => fits_b f1 g1 A1 m1 c1 E1 u hf1
  have hmm := HM.out
  have hI1 : ∀ o : Option Dy, (if -1073741824 ≤ E1 ∧ E1 ≤ 1073741824 then o else none) = if f1 = true then o else none := fun o => by
    rw [← hf1]; simp
  rw [hI1] at hmm
  replace HM := Lib.hid hmm
  have Hf1 := Lib.hid hf1
  clear hmm hI1 hf1
  have x0 := H0.out.2.1.c0
  have x1 := H0.out.2.1.c1
  have x2 := H0.out.2.1.c2
  by_cases hok : f1 = true ∧ 0 ≤ m
  case neg =>
    have hpr := HM.out.1
    rw [powR_arg (by
      cases f1
      · exact Or.inl rfl
      · exact Or.inr (by have : ¬ 0 ≤ m := fun h9 => hok ⟨rfl, h9⟩; omega))] at hpr
    obtain ⟨⟨rfl, rfl, rfl⟩, rfl⟩ : (pg = false ∧ pV = 0 ∧ pE = 0) ∧ r = 1 := by injection hpr with q1 q2; injection q1 with q3 q4 q5; exact ⟨⟨q3.symm, q4.symm, q5.symm⟩, q2.symm⟩
    obtain rfl : m2 = 0 := lim_nil H0.out.l2 HZ.out.1 HZ.out.2
    have g2 : f1 = false ∨ (f1 = true ∧ decide (m < 0) = true) := by
      cases f1
      · exact Or.inl rfl
      · exact Or.inr ⟨rfl, decide_eq_true (by have : ¬ 0 ≤ m := fun h9 => hok ⟨rfl, h9⟩; omega)⟩
    clear hok HM hpr HZ Hf1 HLf
    rcases g2 with rfl | ⟨rfl, b9⟩
    · go_wp2_with fail
      refine (HFi.out _).mono ?_
      rintro e w6 ⟨rfl, hB⟩
      replace H0 := Lib.hid (H0.out.below hB)
      clear hB x0 x1 x2
      have z0 := H0.out.2.2.1.c0
      have z1 := H0.out.2.2.1.c1
      have z2 := H0.out.2.2.1.c2
      have Hfin := Lib.hid H0.out.old
      clear H0 HFi
      go_wp2
      go_ret
      exact ⟨rfl, Hfin.out⟩
    · go_wp2_with fail
      refine (HFi.out _).mono ?_
      rintro e w6 ⟨rfl, hB⟩
      replace H0 := Lib.hid (H0.out.below hB)
      clear hB x0 x1 x2
      have z0 := H0.out.2.2.1.c0
      have z1 := H0.out.2.2.1.c1
      have z2 := H0.out.2.2.1.c2
      have Hfin := Lib.hid H0.out.old
      clear H0 HFi
      go_wp2
      go_ret
      exact ⟨rfl, Hfin.out⟩
  case pos =>
    obtain ⟨rfl, hm0⟩ := hok
    obtain ⟨mm, rfl⟩ : ∃ mm : Nat, m = (mm : Int) := ⟨m.toNat, by omega⟩
    have b9 : decide ((mm : Int) < 0) = false := decide_eq_false (by omega)
    obtain ⟨hpr, hff, hlf, hod, he1, he2, hvb⟩ := HM.out
    simp only [if_true] at hpr hff
    unfold powR at hpr
    unfold fitO at hff
    simp only at hpr hff
    rw [if_neg (by omega), hff, Int.toNat_natCast] at hpr
    have HPr := Lib.hid hpr
    have HFf := Lib.hid hff
    have HOd := Lib.hid hod
    have HEb := Lib.hid (And.intro he1 (And.intro he2 hvb))
    clear hpr hff hlf hod he1 he2 hvb HM
    go_wp2_with fail
    refine (HFi.out _).mono ?_
    rintro e w6 ⟨rfl, hB⟩
    replace H0 := Lib.hid (H0.out.below hB)
    clear hB x0 x1 x2 HFi
    have x0 := H0.out.2.1.c0
    have x1 := H0.out.2.1.c1
    have x2 := H0.out.2.1.c2
    go_wp2_with fail
    refine (HLf.out _ H0.out).mono ?_
    rintro e w7 ⟨rfl, hB⟩
    replace H0 := Lib.hid (H0.out.below hB)
    clear hB x0 x1 x2 HLf
    cases F with
    | false =>
      have hpr := HPr.out
      obtain ⟨⟨rfl, rfl, rfl⟩, rfl⟩ : (pg = false ∧ pV = 0 ∧ pE = 0) ∧ r = 2 := by injection hpr with q1 q2; injection q1 with q3 q4 q5; exact ⟨⟨q3.symm, q4.symm, q5.symm⟩, q2.symm⟩
      obtain rfl : m2 = 0 := lim_nil H0.out.l2 HZ.out.1 HZ.out.2
      clear hpr HPr HFf HOd HEb HZ Hf1
      have z0 := H0.out.2.2.1.c0
      have z1 := H0.out.2.2.1.c1
      have z2 := H0.out.2.2.1.c2
      have Hfin := Lib.hid H0.out.old
      clear H0 
      go_wp2
      go_ret
      exact ⟨rfl, Hfin.out⟩
    | true =>
      have hpr := HPr.out
      obtain ⟨hpd, rfl⟩ : powD ⟨g1, V1, E1⟩ mm = ⟨pg, pV, pE⟩ ∧ r = 0 := by injection hpr with q1 q2; exact ⟨q1, q2.symm⟩
      obtain ⟨B1, hB1⟩ : ∃ b, blen V1 = b := ⟨_, rfl⟩
      have hff := HFf.out
      unfold fitB at hff
      rw [Bool.and_eq_true, Int.natAbs_natCast, hB1] at hff
      have fa := of_decide_eq_true hff.1
      have fb := of_decide_eq_true hff.2
      have hT := abs_mul_le fb
      have hB9 : B1 ≤ 1280 := by rw [← hB1]; exact HEb.out.2.2
      have HBt : Hid (∀ u, HoldPw w g A n c xs e0 w2.heap.size g1 A1 m1 c1 E1 V1 es1 w3.heap.size pg A2 m2 c2 pE zs u → Calls Tryd.prog 13 #[.agg #[.bool g1, .slice A1 m1 c1, .int .i64 E1]] u fun e w' => e = .returned (.int .i64 (B1 : Int)) ∧ Below u.heap.size u w') := fun u hu => lbits_l B1 g1 A1 m1 c1 es1 E1 u hu.mg.1 hu.mg.2.1 (by omega) HEb.out.1 HEb.out.2.1 (by show _ = _; rw [hu.mg.2.2]; exact hB1)
      obtain ⟨T, hTT⟩ : ∃ T, E1 * (mm : Int) = T := ⟨_, rfl⟩
      rw [hTT] at hT
      have t1 : -60000 ≤ T := by omega
      have t2 : T ≤ 60000 := by omega
      have hz1 : m1 = 0 ↔ V1 = 0 := by rw [← H0.out.mg.2.2]; exact dnil_iff H0.out.mg.1 H0.out.mg.2.1
      have HPd := Lib.hid hpd
      have HBb := Lib.hid hB1
      have HTT := Lib.hid hTT
      clear hpr HPr HFf hff hpd hB1 hT fb
      have x0 := H0.out.2.1.c0
      have x1 := H0.out.2.1.c1
      have x2 := H0.out.2.1.c2
      go_wp2_with fail
      refine (HBt.out _ H0.out).mono ?_
      rintro e w8 ⟨rfl, hB⟩
      replace H0 := Lib.hid (H0.out.below hB)
      clear hB x0 x1 x2
      by_cases hq : 1 < B1
      case pos =>
        have d1 : decide ((1 : Int) < (B1 : Int)) = true := decide_eq_true (by omega)
        obtain ⟨q, hq3⟩ : ∃ q, 3000 / B1 = q := ⟨_, rfl⟩
        have e3 : (3000 : Int) / (B1 : Int) = (q : Int) := by rw [← hq3]; exact (Int.natCast_ediv 3000 B1).symm
        have hq9 : q ≤ 3000 := by rw [← hq3]; exact Nat.div_le_self _ _
        have hb0 : (B1 : Int) ≠ 0 := by omega
        have x0 := H0.out.2.1.c0
        have x1 := H0.out.2.1.c1
        have x2 := H0.out.2.1.c2
        go_wp2_with fail
        refine (HBt.out _ H0.out).mono ?_
        rintro e w9 ⟨rfl, hB⟩
        replace H0 := Lib.hid (H0.out.below hB)
        clear hB x0 x1 x2
        by_cases hlong : q < mm
        case pos =>
          have d2 : decide (q < mm) = true := decide_eq_true hlong
          clear HPd HBb HTT HZ HOd HEb Hf1 hz1 hlong hq3 fa HBt
          have Hfin := Lib.hid H0.out.old
          clear H0 
          go_wp2
          go_ret
          exact ⟨rfl, Hfin.out⟩
        case neg =>
          have d2 : decide (q < mm) = false := decide_eq_false hlong
          have hbm : B1 * mm ≤ 3000 := by
            have h9 : mm ≤ 3000 / B1 := by omega
            have h8 := (Nat.le_div_iff_mul_le (by omega)).1 h9
            rw [Nat.mul_comm]; exact h8
          have hV0 : V1 ≠ 0 := fun h9 => by
            have h8 := HBb.out
            rw [h9] at h8
            have : (0 : Nat) = B1 := h8
            omega
          have hz2 : ((m1 : Int) == 0) = false := beq_eq_false_iff_ne.2 (fun h9 => hV0 (hz1.1 (by omega)))
          have d3 : decide ((B1 : Int) ≤ 1) = false := decide_eq_false (by omega)
          have hmb : mm ≤ 3000 := by
            have h9 := Nat.mul_le_mul_right mm (show 1 ≤ B1 by omega)
            omega
          have hlt : V1 ^ mm < D.pw 188 := pow_188 (by rw [HBb.out]; exact hbm)
          have HPw : Hid (∀ u, HoldPw w g A n c xs e0 w2.heap.size g1 A1 m1 c1 E1 V1 es1 w3.heap.size pg A2 m2 c2 pE zs u → Calls Tryd.prog 16 #[.agg #[.bool g1, .slice A1 m1 c1, .int .i64 E1], .int .i64 (mm : Int)] u (NTold u ⟨pg, pV, pE⟩ 188)) := fun u hu => by
            have h := pow10_any 188 g1 V1 E1 A1 m1 c1 es1 mm u hu.mg.1 hu.mg.2.1 hu.mg.2.2 (by omega) (by omega) (by omega) (by decide) hlt (by rw [HTT.out]; omega) (by rw [HTT.out]; omega)
            rw [HPd.out] at h
            exact h
          have hpe : pE = T := by have h9 := HPd.out; injection h9 with _ _ h8; rw [← h8]; exact HTT.out
          have hpo : Odd ⟨pg, pV, pE⟩ := by rw [← HPd.out]; exact powD_odd HOd.out mm
          have hp0 : pV ≠ 0 := by
            have h9 := HPd.out
            injection h9 with _ h8 _
            rw [← h8]
            exact Nat.ne_of_gt (Nat.pow_pos (Nat.pos_of_ne_zero hV0))
          have HTo : Hid (∀ u A6 m6 c6 us, Dig u A6 m6 c6 us → D.Bare us → D.val us = pV → m6 ≤ 188 → Calls Tryd.prog 14 #[.agg #[.bool pg, .slice A6 m6 c6, .int .i64 pE]] u (TTold u ⟨pg, pV, pE⟩ 50)) := fun u A6 m6 c6 us r1 r2 r3 r4 =>
            rto_far pg pV pE pg pV pE A6 m6 c6 us u r1 r2 r3 (by omega) (nO_self hpo (by show -2147483648 ≤ pE; omega) (by show pE ≤ 2147483648; omega)) hp0 (by omega) (by omega)
          clear HPd HBb HTT HOd HEb Hf1 hz1 hlong hq3 fa hbm hlt hpo hp0 hq hV0 hpe
          have x0 := H0.out.2.1.c0
          have x1 := H0.out.2.1.c1
          have x2 := H0.out.2.1.c2
          go_wp2_with fail
          refine (HBt.out _ H0.out).mono ?_
          rintro e w10 ⟨rfl, hB⟩
          replace H0 := Lib.hid (H0.out.below hB)
          clear hB x0 x1 x2 HBt
          have x0 := H0.out.2.1.c0
          have x1 := H0.out.2.1.c1
          have x2 := H0.out.2.1.c2
          go_wp2_with fail
          refine (HPw.out _ H0.out).mono ?_
          rintro e w11 ⟨A6, m6, c6, us, rfl, hm6, hl6, hb6, hv6, hB⟩
          replace H0 := Lib.hid (H0.out.below hB)
          have HT9 := Lib.hid (HTo.out w11 A6 m6 c6 us hl6 hb6 hv6 hm6)
          clear hB hl6 hb6 hv6 HPw HTo x0 x1 x2
          go_wp2_with fail
          refine HT9.out.mono ?_
          rintro e w12 ⟨A7, m7, c7, ts, rfl, hm7, hl7, hb7, hv7, hB⟩
          simp only at hv7
          obtain rfl : ts = zs := bare_eq hl7.words H0.out.l2.words hb7 HZ.out.1 (by rw [hv7, HZ.out.2])
          obtain rfl : m7 = m2 := by rw [← hl7.len, ← H0.out.l2.len]
          replace H0 := Lib.hid ((H0.out.below hB).below (below1 _ (.cells #[.bool pg, .slice A7 m7 c7, .int .i64 pE] 24)))
          have HX := Lib.hid (Bd.new w12 24 pg A7 m7 c7 pE)
          have HL7 := Lib.hid (hl7.alloc (.cells #[.bool pg, .slice A7 m7 c7, .int .i64 pE] 24))
          have HSm := Lib.hid (fsame_yes pg A2 m7 c2 ts pE A7 c7 _ H0.out.l2 HL7.out (by omega))
          have s0 := HX.out.c0
          have s1 := HX.out.c1
          have s2 := HX.out.c2
          clear hB hl7 hb7 hv7 HT9 HZ
          have z0 := H0.out.2.2.1.c0
          have z1 := H0.out.2.2.1.c1
          have z2 := H0.out.2.2.1.c2
          go_wp2_with fail
          refine HSm.out.mono ?_
          rintro e w13 ⟨rfl, hB⟩
          have Hfin := Lib.hid (H0.out.below hB).old
          clear hB H0 HX HL7 HSm s0 s1 s2 z0 z1 z2
          go_wp2
          go_ret
          exact ⟨rfl, Hfin.out⟩
      case neg =>
        have d1 : decide ((1 : Int) < (B1 : Int)) = false := decide_eq_false (by omega)
        have d3 : decide ((B1 : Int) ≤ 1) = true := decide_eq_true (by omega)
        have hV9 : V1 = 0 ∨ V1 = 1 := by
          have h9 : V1 < 2 ^ 1 := blen_le_iff.1 (by rw [HBb.out]; omega)
          omega
        by_cases hzm : V1 = 0 ∧ 0 < mm
        case pos =>
          obtain ⟨rfl, hmm⟩ := hzm
          obtain rfl : m1 = 0 := hz1.2 rfl
          have d4 : decide (0 < mm) = true := decide_eq_true hmm
          obtain rfl : m2 = 0 := lim_nil H0.out.l2 HZ.out.1 (by
            rw [HZ.out.2]
            have h9 := HPd.out
            injection h9 with _ h8 _
            rw [← h8]
            exact Nat.zero_pow hmm)
          clear HPd HBb HTT HZ HOd HEb Hf1 hz1 fa HBt hV9 hq hmm
          have x0 := H0.out.2.1.c0
          have x1 := H0.out.2.1.c1
          have x2 := H0.out.2.1.c2
          have z0 := H0.out.2.2.1.c0
          have z1 := H0.out.2.2.1.c1
          have z2 := H0.out.2.2.1.c2
          have Hfin := Lib.hid H0.out.old
          clear H0 
          go_wp2
          go_ret
          exact ⟨rfl, Hfin.out⟩
        case neg =>
          have hone : V1 ^ mm = 1 := by
            rcases hV9 with h9 | h9
            · have : mm = 0 := by
                rcases Nat.eq_zero_or_pos mm with h8 | h8
                · exact h8
                · exact absurd ⟨h9, h8⟩ hzm
              rw [this]; rfl
            · rw [h9]; exact Nat.one_pow _
          have hpV : pV = 1 := by have h9 := HPd.out; injection h9 with _ h8 _; rw [← h8]; exact hone
          have hpE : pE = T := by have h9 := HPd.out; injection h9 with _ _ h8; rw [← h8]; exact HTT.out
          have hpg : (g1 && decide (mm % 2 = 1)) = pg := by have h9 := HPd.out; injection h9 with h8 _ _
          subst hpV
          subst hpE
          have g15 : ((m1 : Int) == 0) = false ∨ (m1 = 0 ∧ mm = 0) := by
            rcases hV9 with h9 | h9
            · refine Or.inr ⟨hz1.2 h9, ?_⟩
              rcases Nat.eq_zero_or_pos mm with h8 | h8
              · exact h8
              · exact absurd ⟨h9, h8⟩ hzm
            · exact Or.inl (beq_eq_false_iff_ne.2 (fun h8 => by have := hz1.1 (by omega); omega))
          have HTT9 := HTT.out
          have HTo : Hid (∀ u : World, Calls Tryd.prog 14 #[.agg #[.bool pg, .slice (some ⟨u.heap.size, 0, none⟩) 1 1, .int .i64 pE]] (u.alloc (.cells #[.int .u32 1] 40)) (TTold (u.alloc (.cells #[.int .u32 1] 40)) ⟨pg, 1, pE⟩ 50)) := fun u =>
            rto_far pg 1 pE pg 1 pE _ 1 1 [1] _ (dig_new1 u 40 1 1 rfl (by decide)) (dbare_one (by decide)) (dval_one 1) (by decide) (nO_self (d := ⟨pg, 1, pE⟩) (Or.inl ⟨0, rfl⟩) (by show -2147483648 ≤ pE; omega) (by show pE ≤ 2147483648; omega)) (by decide) (by omega) (by omega)
          clear HPd HBb HTT HOd HEb Hf1 hz1 fa hV9 hzm hone hq
          rcases g15 with g15 | ⟨rfl, rfl⟩
          · cases g1 with
            | false =>
              obtain rfl : false = pg := hpg
              have x0 := H0.out.2.1.c0
              have x1 := H0.out.2.1.c1
              have x2 := H0.out.2.1.c2
              go_wp2_with fail
              refine (HBt.out _ H0.out).mono ?_
              rintro e w10 ⟨rfl, hB⟩
              replace H0 := Lib.hid (H0.out.below hB)
              clear hB x0 x1 x2 HBt
              have x0 := H0.out.2.1.c0
              have x1 := H0.out.2.1.c1
              have x2 := H0.out.2.1.c2
              have HT9 := HTo.out w10
              replace H0 := Lib.hid (H0.out.below (below1 _ (.cells #[.int .u32 1] 40)))
              replace HT9 := Lib.hid HT9
              have y2 := H0.out.2.1.c2
              clear HTo
              go_wp2_with fail
              refine HT9.out.mono ?_
              rintro e w12 ⟨A7, m7, c7, ts, rfl, hm7, hl7, hb7, hv7, hB⟩
              simp only at hv7
              obtain rfl : ts = zs := bare_eq hl7.words H0.out.l2.words hb7 HZ.out.1 (by rw [hv7, HZ.out.2])
              obtain rfl : m7 = m2 := by rw [← hl7.len, ← H0.out.l2.len]
              replace H0 := Lib.hid ((H0.out.below hB).below (below1 _ (.cells #[.bool false, .slice A7 m7 c7, .int .i64 pE] 24)))
              have HX := Lib.hid (Bd.new w12 24 false A7 m7 c7 pE)
              have HL7 := Lib.hid (hl7.alloc (.cells #[.bool false, .slice A7 m7 c7, .int .i64 pE] 24))
              have HSm := Lib.hid (fsame_yes false A2 m7 c2 ts pE A7 c7 _ H0.out.l2 HL7.out (by omega))
              have s0 := HX.out.c0
              have s1 := HX.out.c1
              have s2 := HX.out.c2
              clear hB hl7 hb7 hv7 HT9 HZ
              have z0 := H0.out.2.2.1.c0
              have z1 := H0.out.2.2.1.c1
              have z2 := H0.out.2.2.1.c2
              go_wp2_with fail
              refine HSm.out.mono ?_
              rintro e w13 ⟨rfl, hB⟩
              have Hfin := Lib.hid (H0.out.below hB).old
              clear hB H0 HX HL7 HSm s0 s1 s2 z0 z1 z2
              go_wp2
              go_ret
              exact ⟨rfl, Hfin.out⟩
            | true =>
              by_cases hr : mm % 2 = 1
              · obtain rfl : true = pg := by rw [← hpg]; simp [hr]
                have e9 : (mm : Int) % 2 = 1 := by omega
                clear hpg hr
                have x0 := H0.out.2.1.c0
                have x1 := H0.out.2.1.c1
                have x2 := H0.out.2.1.c2
                go_wp2_with fail
                refine (HBt.out _ H0.out).mono ?_
                rintro e w10 ⟨rfl, hB⟩
                replace H0 := Lib.hid (H0.out.below hB)
                clear hB x0 x1 x2 HBt
                have x0 := H0.out.2.1.c0
                have x1 := H0.out.2.1.c1
                have x2 := H0.out.2.1.c2
                have HT9 := HTo.out w10
                replace H0 := Lib.hid (H0.out.below (below1 _ (.cells #[.int .u32 1] 40)))
                replace HT9 := Lib.hid HT9
                have y2 := H0.out.2.1.c2
                clear HTo
                go_wp2_with fail
                refine HT9.out.mono ?_
                rintro e w12 ⟨A7, m7, c7, ts, rfl, hm7, hl7, hb7, hv7, hB⟩
                simp only at hv7
                obtain rfl : ts = zs := bare_eq hl7.words H0.out.l2.words hb7 HZ.out.1 (by rw [hv7, HZ.out.2])
                obtain rfl : m7 = m2 := by rw [← hl7.len, ← H0.out.l2.len]
                replace H0 := Lib.hid ((H0.out.below hB).below (below1 _ (.cells #[.bool true, .slice A7 m7 c7, .int .i64 pE] 24)))
                have HX := Lib.hid (Bd.new w12 24 true A7 m7 c7 pE)
                have HL7 := Lib.hid (hl7.alloc (.cells #[.bool true, .slice A7 m7 c7, .int .i64 pE] 24))
                have HSm := Lib.hid (fsame_yes true A2 m7 c2 ts pE A7 c7 _ H0.out.l2 HL7.out (by omega))
                have s0 := HX.out.c0
                have s1 := HX.out.c1
                have s2 := HX.out.c2
                clear hB hl7 hb7 hv7 HT9 HZ
                have z0 := H0.out.2.2.1.c0
                have z1 := H0.out.2.2.1.c1
                have z2 := H0.out.2.2.1.c2
                go_wp2_with fail
                refine HSm.out.mono ?_
                rintro e w13 ⟨rfl, hB⟩
                have Hfin := Lib.hid (H0.out.below hB).old
                clear hB H0 HX HL7 HSm s0 s1 s2 z0 z1 z2
                go_wp2
                go_ret
                exact ⟨rfl, Hfin.out⟩
              · obtain rfl : false = pg := by rw [← hpg]; simp [hr]
                have e9 : (mm : Int) % 2 = 0 := by omega
                clear hpg hr
                have x0 := H0.out.2.1.c0
                have x1 := H0.out.2.1.c1
                have x2 := H0.out.2.1.c2
                go_wp2_with fail
                refine (HBt.out _ H0.out).mono ?_
                rintro e w10 ⟨rfl, hB⟩
                replace H0 := Lib.hid (H0.out.below hB)
                clear hB x0 x1 x2 HBt
                have x0 := H0.out.2.1.c0
                have x1 := H0.out.2.1.c1
                have x2 := H0.out.2.1.c2
                have HT9 := HTo.out w10
                replace H0 := Lib.hid (H0.out.below (below1 _ (.cells #[.int .u32 1] 40)))
                replace HT9 := Lib.hid HT9
                have y2 := H0.out.2.1.c2
                clear HTo
                go_wp2_with fail
                refine HT9.out.mono ?_
                rintro e w12 ⟨A7, m7, c7, ts, rfl, hm7, hl7, hb7, hv7, hB⟩
                simp only at hv7
                obtain rfl : ts = zs := bare_eq hl7.words H0.out.l2.words hb7 HZ.out.1 (by rw [hv7, HZ.out.2])
                obtain rfl : m7 = m2 := by rw [← hl7.len, ← H0.out.l2.len]
                replace H0 := Lib.hid ((H0.out.below hB).below (below1 _ (.cells #[.bool false, .slice A7 m7 c7, .int .i64 pE] 24)))
                have HX := Lib.hid (Bd.new w12 24 false A7 m7 c7 pE)
                have HL7 := Lib.hid (hl7.alloc (.cells #[.bool false, .slice A7 m7 c7, .int .i64 pE] 24))
                have HSm := Lib.hid (fsame_yes false A2 m7 c2 ts pE A7 c7 _ H0.out.l2 HL7.out (by omega))
                have s0 := HX.out.c0
                have s1 := HX.out.c1
                have s2 := HX.out.c2
                clear hB hl7 hb7 hv7 HT9 HZ
                have z0 := H0.out.2.2.1.c0
                have z1 := H0.out.2.2.1.c1
                have z2 := H0.out.2.2.1.c2
                go_wp2_with fail
                refine HSm.out.mono ?_
                rintro e w13 ⟨rfl, hB⟩
                have Hfin := Lib.hid (H0.out.below hB).old
                clear hB H0 HX HL7 HSm s0 s1 s2 z0 z1 z2
                go_wp2
                go_ret
                exact ⟨rfl, Hfin.out⟩
          · have e9 : E1 * 0 = 0 := Int.mul_zero _
            have hpg0 : pg = false := by rw [← hpg]; cases g1 <;> rfl
            obtain rfl : pE = 0 := by rw [← HTT9]; exact Int.mul_zero _
            subst hpg0
            clear hpg HTT9
            cases g1
            · have x0 := H0.out.2.1.c0
              have x1 := H0.out.2.1.c1
              have x2 := H0.out.2.1.c2
              go_wp2_with fail
              refine (HBt.out _ H0.out).mono ?_
              rintro e w10 ⟨rfl, hB⟩
              replace H0 := Lib.hid (H0.out.below hB)
              clear hB x0 x1 x2 HBt
              have x0 := H0.out.2.1.c0
              have x1 := H0.out.2.1.c1
              have x2 := H0.out.2.1.c2
              have HT9 := HTo.out w10
              replace H0 := Lib.hid (H0.out.below (below1 _ (.cells #[.int .u32 1] 40)))
              replace HT9 := Lib.hid HT9
              have y2 := H0.out.2.1.c2
              clear HTo
              go_wp2_with fail
              refine HT9.out.mono ?_
              rintro e w12 ⟨A7, m7, c7, ts, rfl, hm7, hl7, hb7, hv7, hB⟩
              simp only at hv7
              obtain rfl : ts = zs := bare_eq hl7.words H0.out.l2.words hb7 HZ.out.1 (by rw [hv7, HZ.out.2])
              obtain rfl : m7 = m2 := by rw [← hl7.len, ← H0.out.l2.len]
              replace H0 := Lib.hid ((H0.out.below hB).below (below1 _ (.cells #[.bool false, .slice A7 m7 c7, .int .i64 0] 24)))
              have HX := Lib.hid (Bd.new w12 24 false A7 m7 c7 0)
              have HL7 := Lib.hid (hl7.alloc (.cells #[.bool false, .slice A7 m7 c7, .int .i64 0] 24))
              have HSm := Lib.hid (fsame_yes false A2 m7 c2 ts 0 A7 c7 _ H0.out.l2 HL7.out (by omega))
              have s0 := HX.out.c0
              have s1 := HX.out.c1
              have s2 := HX.out.c2
              clear hB hl7 hb7 hv7 HT9 HZ
              have z0 := H0.out.2.2.1.c0
              have z1 := H0.out.2.2.1.c1
              have z2 := H0.out.2.2.1.c2
              go_wp2_with fail
              refine HSm.out.mono ?_
              rintro e w13 ⟨rfl, hB⟩
              have Hfin := Lib.hid (H0.out.below hB).old
              clear hB H0 HX HL7 HSm s0 s1 s2 z0 z1 z2
              go_wp2
              go_ret
              exact ⟨rfl, Hfin.out⟩
            · have x0 := H0.out.2.1.c0
              have x1 := H0.out.2.1.c1
              have x2 := H0.out.2.1.c2
              go_wp2_with fail
              refine (HBt.out _ H0.out).mono ?_
              rintro e w10 ⟨rfl, hB⟩
              replace H0 := Lib.hid (H0.out.below hB)
              clear hB x0 x1 x2 HBt
              have x0 := H0.out.2.1.c0
              have x1 := H0.out.2.1.c1
              have x2 := H0.out.2.1.c2
              have HT9 := HTo.out w10
              replace H0 := Lib.hid (H0.out.below (below1 _ (.cells #[.int .u32 1] 40)))
              replace HT9 := Lib.hid HT9
              have y2 := H0.out.2.1.c2
              clear HTo
              go_wp2_with fail
              refine HT9.out.mono ?_
              rintro e w12 ⟨A7, m7, c7, ts, rfl, hm7, hl7, hb7, hv7, hB⟩
              simp only at hv7
              obtain rfl : ts = zs := bare_eq hl7.words H0.out.l2.words hb7 HZ.out.1 (by rw [hv7, HZ.out.2])
              obtain rfl : m7 = m2 := by rw [← hl7.len, ← H0.out.l2.len]
              replace H0 := Lib.hid ((H0.out.below hB).below (below1 _ (.cells #[.bool false, .slice A7 m7 c7, .int .i64 0] 24)))
              have HX := Lib.hid (Bd.new w12 24 false A7 m7 c7 0)
              have HL7 := Lib.hid (hl7.alloc (.cells #[.bool false, .slice A7 m7 c7, .int .i64 0] 24))
              have HSm := Lib.hid (fsame_yes false A2 m7 c2 ts 0 A7 c7 _ H0.out.l2 HL7.out (by omega))
              have s0 := HX.out.c0
              have s1 := HX.out.c1
              have s2 := HX.out.c2
              clear hB hl7 hb7 hv7 HT9 HZ
              have z0 := H0.out.2.2.1.c0
              have z1 := H0.out.2.2.1.c1
              have z2 := H0.out.2.2.1.c2
              go_wp2_with fail
              refine HSm.out.mono ?_
              rintro e w13 ⟨rfl, hB⟩
              have Hfin := Lib.hid (H0.out.below hB).old
              clear hB H0 HX HL7 HSm s0 s1 s2 z0 z1 z2
              go_wp2
              go_ret
              exact ⟨rfl, Hfin.out⟩

theorem walk_ratioPows (g : Bool) (A : Option Addr) (n c : Nat) (xs : List Nat) (e0 m : Int) (w : World) (hT : Tab w) (hA : Lim w A n c xs) (hi1 : -9223372036854775808 ≤ m) (hi2 : m ≤ 9223372036854775807) :
    Calls Tryd.prog 3 #[.agg #[.bool g, .slice A n c, .int .i64 e0], .int .i64 m] w fun e w' => e = .returned (.bool true) ∧ Below w.heap.size w w' := by
  by_cases h : 20 < n
  · exact pows_long g A n c e0 m w hT h
  · exact pows_short g A n c xs e0 m w hT hA (by omega) hi1 hi2
end Go.Proofs.YteflihpnhgicfaaDoor
