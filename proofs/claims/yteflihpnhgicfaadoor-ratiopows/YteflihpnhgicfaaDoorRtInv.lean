/- The walk of ratio.inverse. -/
import Derived.Test.YteflihpnhgicfaaDoorRtPower
import Derived.Test.YteflihpnhgicfaaDoorRtProd
import Derived.Test.YteflihpnhgicfaaDoorRtOf
import Derived.Deep.Cut
namespace Go.Proofs.YteflihpnhgicfaaDoor
open Go.RowKit

/-- One, against a product, by the tops. -/
theorem pow_blen {V : Nat} (h : V ≠ 0) : 2 ^ (blen V - 1) ≤ V := by
  rcases Nat.lt_or_ge V (2 ^ (blen V - 1)) with h1 | h1
  · have h2 := blen_le_iff.2 h1
    have h3 : blen V ≠ 0 := fun h9 => h (blen_zero_iff.1 h9)
    omega
  · exact h1
theorem inv_high {V U : Nat} {e f : Int} (hV : V ≠ 0) (hU : U ≠ 0) (h : 0 < ((blen V : Int) - 1 + e) + ((blen U : Int) - 1 + f)) : cq 1 0 (V * U) (e + f) = -1 := by
  have h1 := Nat.mul_le_mul (pow_blen hV) (pow_blen hU)
  rw [← Nat.pow_add] at h1
  have n1 : blen V ≠ 0 := fun h9 => hV (blen_zero_iff.1 h9)
  have n2 : blen U ≠ 0 := fun h9 => hU (blen_zero_iff.1 h9)
  unfold cq
  refine cmpZ_lt ?_
  rw [Nat.one_mul]
  have h3 : 2 ^ (0 - (e + f)).toNat < 2 ^ (blen V - 1 + (blen U - 1)) * 2 ^ (e + f - 0).toNat := by
    rw [← Nat.pow_add]
    exact Nat.pow_lt_pow_right (by decide) (by omega)
  exact Nat.lt_of_lt_of_le h3 (Nat.mul_le_mul_right _ h1)
theorem inv_low {V U : Nat} {e f : Int} (hV : V ≠ 0) (hU : U ≠ 0) (h : ((blen V : Int) - 1 + e) + ((blen U : Int) - 1 + f) < -1) : cq 1 0 (V * U) (e + f) = 1 := by
  have h1 : V * U < 2 ^ (blen V + blen U) := by
    rw [Nat.pow_add]
    exact Nat.mul_lt_mul_of_lt_of_lt (lt_blen V) (lt_blen U)
  have n1 : blen V ≠ 0 := fun h9 => hV (blen_zero_iff.1 h9)
  have n2 : blen U ≠ 0 := fun h9 => hU (blen_zero_iff.1 h9)
  unfold cq
  refine cmpZ_gt ?_
  rw [Nat.one_mul, show (e + f - 0).toNat = 0 by omega, Nat.pow_zero, Nat.mul_one]
  exact Nat.lt_of_lt_of_le h1 (Nat.pow_le_pow_right (by decide) (by omega))

/-- Both numbers in their boxes, the product in a block q. -/
def RelI (w : World) (g : Bool) (A : Option Addr) (n c : Nat) (xs : List Nat) (e1 : Int) (k : Bool) (B : Option Addr) (m d : Nat) (ys : List Nat) (e2 : Int) (q : Nat) (A5 : Option Addr) (m5 c5 : Nat) (es : List Nat) (s : Int) (V : Nat) (u : World) : Prop :=
  Held2 w w.heap.size g A n c xs e1 (w.heap.size + 1) k B m d ys e2 u ∧ Bd u q 30 false A5 m5 c5 s ∧ Lim u A5 m5 c5 es ∧ val es = V ∧ m5 ≤ 2001
theorem RelI.below {w : World} {g : Bool} {A : Option Addr} {n c : Nat} {xs : List Nat} {e1 : Int} {k : Bool} {B : Option Addr} {m d : Nat} {ys : List Nat} {e2 : Int} {q : Nat} {A5 : Option Addr} {m5 c5 : Nat} {es : List Nat} {s : Int} {V : Nat} {u u' : World}
    (h : RelI w g A n c xs e1 k B m d ys e2 q A5 m5 c5 es s V u) (hb : Below u.heap.size u u') : RelI w g A n c xs e1 k B m d ys e2 q A5 m5 c5 es s V u' :=
  ⟨h.1.below hb, h.2.1.below hb, h.2.2.1.below hb, h.2.2.2.1, h.2.2.2.2⟩
theorem RelI.three {w : World} {g : Bool} {A : Option Addr} {n c : Nat} {xs : List Nat} {e1 : Int} {k : Bool} {B : Option Addr} {m d : Nat} {ys : List Nat} {e2 : Int} {q : Nat} {A5 : Option Addr} {m5 c5 : Nat} {es : List Nat} {s : Int} {V : Nat} {u : World}
    (h : RelI w g A n c xs e1 k B m d ys e2 q A5 m5 c5 es s V u) : u.cell? ⟨q, 0, none⟩ = some (.bool false) ∧ u.cell? ⟨q, 1, none⟩ = some (.slice A5 m5 c5) ∧ u.cell? ⟨q, 2, none⟩ = some (.int .i64 s) := ⟨h.2.1.c0, h.2.1.c1, h.2.1.c2⟩
theorem RelI.old {w : World} {g : Bool} {A : Option Addr} {n c : Nat} {xs : List Nat} {e1 : Int} {k : Bool} {B : Option Addr} {m d : Nat} {ys : List Nat} {e2 : Int} {q : Nat} {A5 : Option Addr} {m5 c5 : Nat} {es : List Nat} {s : Int} {V : Nat} {u : World}
    (h : RelI w g A n c xs e1 k B m d ys e2 q A5 m5 c5 es s V u) : Below w.heap.size w u := h.1.2.2.2.2.2
theorem Held2.six {w0 : World} {b1 : Nat} {g : Bool} {A : Option Addr} {n c : Nat} {xs : List Nat} {e1 : Int} {b2 : Nat} {k : Bool} {B : Option Addr} {m d : Nat} {ys : List Nat} {e2 : Int} {w : World}
    (h : Held2 w0 b1 g A n c xs e1 b2 k B m d ys e2 w) : Six w b1 g A n c e1 b2 k B m d e2 := h.1.six h.2.1
theorem Held2.lt {w0 : World} {b1 : Nat} {g : Bool} {A : Option Addr} {n c : Nat} {xs : List Nat} {e1 : Int} {b2 : Nat} {k : Bool} {B : Option Addr} {m d : Nat} {ys : List Nat} {e2 : Int} {w : World}
    (h : Held2 w0 b1 g A n c xs e1 b2 k B m d ys e2 w) : b1 < w.heap.size ∧ b2 < w.heap.size := ⟨h.1.lt, h.2.1.lt⟩
theorem Held2.put {w0 : World} {b1 : Nat} {g : Bool} {A : Option Addr} {n c : Nat} {xs : List Nat} {e1 : Int} {b2 : Nat} {k : Bool} {B : Option Addr} {m d : Nat} {ys : List Nat} {e2 : Int} {w : World}
    (h : Held2 w0 b1 g A n c xs e1 b2 k B m d ys e2 w) {q : Nat} (h1 : b1 ≠ q) (h2 : b2 ≠ q) (h3 : w0.heap.size ≤ q) {t : Nat} {g0 : Bool} {A0 : Option Addr} {n0 c0 : Nat} {e0 : Int} (hB : Bd w q t g0 A0 n0 c0 e0) (g' : Bool) (A' : Option Addr) (n' c' : Nat) (e' : Int) :
    Held2 w0 b1 g A n c xs e1 b2 k B m d ys e2 (World.put w q g' A' n' c' e') := by
  obtain ⟨k1, k2, k3, k4, k5, k6⟩ := h
  exact ⟨k1.other h1 _ _ _ _ _, k2.other h2 _ _ _ _ _, hB.lim k3 _ _ _ _ _, hB.lim k4 _ _ _ _ _, hB.tab k5 _ _ _ _ _, below_put k6 h3 _ _ _ _ _⟩

set_option maxHeartbeats 2000000 in
set_option maxRecDepth 20000 in
theorem inverse_l (v : Int) (g : Bool) (A : Option Addr) (n c : Nat) (xs : List Nat) (e1 : Int) (k : Bool) (B : Option Addr) (m d : Nat) (ys : List Nat) (e2 : Int) (w : World) (hA : Lim w A n c xs) (hB : Lim w B m d ys) (hn : n ≤ 998) (hm : m ≤ 998) (hT : Tab w) (hV : val xs ≠ 0) (hU : val ys ≠ 0)
    (h1 : -100000 ≤ e1) (h2 : e1 ≤ 100000) (h3 : -100000 ≤ e2) (h4 : e2 ≤ 100000) (hv : Hid (cq 1 0 (val xs * val ys) (e1 + e2) = v)) :
    Calls Tryd.prog 37 #[.agg #[.bool g, .slice A n c, .int .i64 e1], .agg #[.bool k, .slice B m d, .int .i64 e2]] w fun e w' => e = .returned (.int .i64 v) ∧ Below w.heap.size w w' := by
  obtain ⟨t1, ht1⟩ : ∃ t, (blen (val xs) : Int) - 1 + e1 = t := ⟨_, rfl⟩
  obtain ⟨t2, ht2⟩ : ∃ t, (blen (val ys) : Int) - 1 + e2 = t := ⟨_, rfl⟩
  have hd1 : Hid (topD (val xs) e1 = t1) := by show _ = _; rw [topD, held_id (by omega) (by omega)]; exact ht1
  have hd2 : Hid (topD (val ys) e2 = t2) := by show _ = _; rw [topD, held_id (by omega) (by omega)]; exact ht2
  have hc1 : 0 < t1 + t2 → v = -1 := fun h => by rw [← hv.out]; exact inv_high hV hU (by rw [ht1, ht2]; exact h)
  have hc2 : t1 + t2 < -1 → v = 1 := fun h => by rw [← hv.out]; exact inv_low hV hU (by rw [ht1, ht2]; exact h)
  have hbl1 := hA.blen_le
  have hbl2 := hB.blen_le
  have htb1 : -200000 ≤ t1 := by omega
  have htb2 : t1 ≤ 200000 := by omega
  have htb3 : -200000 ≤ t2 := by omega
  have htb4 : t2 ≤ 200000 := by omega
  have hn0 : 0 < n := by
    rcases Nat.eq_zero_or_pos n with h | h
    · have : xs = [] := List.eq_nil_of_length_eq_zero (by rw [hA.len]; exact h)
      subst this; exact absurd rfl hV
    · exact h
  have hm0 : 0 < m := by
    rcases Nat.eq_zero_or_pos m with h | h
    · have : ys = [] := List.eq_nil_of_length_eq_zero (by rw [hB.len]; exact h)
      subst this; exact absurd rfl hU
    · exact h
  have h0 := Held2.start w g A n c xs e1 k B m d ys e2 hA hB hT
  have HT1 := Lib.hid (top_l t1 g A n c xs e1 _ h0.2.2.1 (by omega) hV hd1)
  have HT2 : Hid (∀ u, Held2 w w.heap.size g A n c xs e1 (w.heap.size + 1) k B m d ys e2 u → Calls Tryd.prog 41 #[.agg #[.bool k, .slice B m d, .int .i64 e2]] u fun e w' => e = .returned (.tuple #[.int .i64 t2, .bool true]) ∧ Below u.heap.size u w') := fun u hu =>
    top_l t2 k B m d ys e2 u hu.2.2.2.1 (by omega) hU hd2
  have HP : Hid (∀ u, Held2 w w.heap.size g A n c xs e1 (w.heap.size + 1) k B m d ys e2 u → Calls Tryd.prog 58 #[.slice A n c, .slice B m d] u (Tells u (val xs * val ys) 2001)) := fun u hu =>
    product_any A n c xs B m d ys u hu.2.2.1 hu.2.2.2.1 hn0 hm0 hn hm
  obtain ⟨V, hVV⟩ : ∃ V, val xs * val ys = V := ⟨_, rfl⟩
  rw [hVV] at HP
  obtain ⟨s, hs⟩ : ∃ s, e1 + e2 = s := ⟨_, rfl⟩
  have hw : IntKind.i64.wrap s = s := by rw [IntKind.wrap_i64]; omega
  have hv' : Hid (cmpI (dw false 1 0) (dw false V s) = v) := by
    show _ = _
    rw [cq_dw (by decide) (by decide) (by omega) (by omega), ← hVV, ← hs]
    exact hv.out
  have H0 := Lib.hid h0
  have hsb1 : -200000 ≤ s := by omega
  have hsb2 : s ≤ 200000 := by omega
  clear hA hB hT hV hU hv h0 hd1 hd2 hbl1 hbl2 ht1 ht2 hn0 hm0 hVV
  go_enter Tryd.func37, Tryd.ntmps37
  go_wp2_with fail
  refine HT1.out.mono ?_
  rintro e w1 ⟨rfl, hB1⟩
  replace H0 := Lib.hid (H0.out.below hB1)
  have x0 := H0.out.2.1.c0
  have x1 := H0.out.2.1.c1
  have x2 := H0.out.2.1.c2
  clear hB1 HT1
  go_wp2_with fail
  refine (HT2.out _ H0.out).mono ?_
  rintro e w2 ⟨rfl, hB2⟩
  replace H0 := Lib.hid (H0.out.below hB2)
  clear hB2 HT2 x0 x1 x2
  by_cases q1 : 0 < t1 + t2
  · obtain rfl := hc1 q1
    have b1 : decide (0 < t1 + t2) = true := decide_eq_true q1
    have Hfin := Lib.hid H0.out.2.2.2.2.2
    clear H0 HP hv' hc1 hc2 q1
    go_wp2
    go_ret
    exact ⟨rfl, Hfin.out⟩
  · have b1 : decide (0 < t1 + t2) = false := decide_eq_false q1
    by_cases q2 : t1 + t2 < -1
    · obtain rfl := hc2 q2
      have b2 : decide (t1 + t2 < -1) = true := decide_eq_true q2
      have Hfin := Lib.hid H0.out.2.2.2.2.2
      clear H0 HP hv' hc1 hc2 q1 q2
      go_wp2
      go_ret
      exact ⟨rfl, Hfin.out⟩
    · have b2 : decide (t1 + t2 < -1) = false := decide_eq_false q2
      have cur := Lib.hid (H0.out.below (below_drew _))
      have F1 := Lib.hid ((H0.out.below (below1 _ (.cells #[.bool false, .slice none 0 0, .int .i64 0] 30))).below (below_drew _))
      have Z1 := Lib.hid (And.intro (Bd.new w2 30 false none 0 0 0).drew H0.out.lt)
      have hs0 := H0.out.2.2.2.2.2.size
      clear H0 hc1 hc2 q1 q2
      go_wp2_with fail
      go_cut [10] from 11 (fun s10 wx => ∃ (q m5 c5 : Nat) (A5 : Option Addr) (es : List Nat), s10 = .pointer (some ⟨q, 0, none⟩) ∧ Hid (RelI w g A n c xs e1 k B m d ys e2 q A5 m5 c5 es s V wx))
      case first =>
        go_region_held3 (fun w' => Six w' w.heap.size g A n c e1 (w.heap.size + 1) k B m d e2)
          (first | (with_reducible exact cur.out.six) | (with_reducible exact F1.out.six) | (with_reducible exact (cur.out.below (below1 _ _)).six) | (with_reducible exact K9.out))
          (first
            | (go_at_call 58; (with_reducible refine (HP.out _ cur.out).mono ?_); rintro e w4 ⟨A4, m4, c4, ts, rfl, hm4, hl4, hb4, hv4, hB4⟩; replace cur := Lib.hid (cur.out.below hB4); have Fin : Hid (RelI w g A n c xs e1 k B m d ys e2 w4.heap.size A4 m4 c4 ts s V (w4.alloc (.cells #[.bool false, .slice A4 m4 c4, .int .i64 s] 30))) := ⟨cur.out.below (below1 _ _), Bd.new w4 _ _ _ _ _ _, hl4.alloc _, hv4, hm4⟩; have K9 := Lib.hid (cur.out.below (below1 _ (.cells #[.bool false, .slice A4 m4 c4, .int .i64 s] 30))).six; clear hl4 hb4 hv4 hB4)
            | (go_at_call 58; (with_reducible refine (HP.out _ F1.out).mono ?_); rintro e w4 ⟨A4, m4, c4, ts, rfl, hm4, hl4, hb4, hv4, hB4⟩; replace F1 := Lib.hid (F1.out.below hB4); have zz := Lib.hid (Z1.out.1.below hB4); have x0 := zz.out.c0; have x1 := zz.out.c1; have x2 := zz.out.c2; have xf := zz.out.fz; have K8 := F1.out.put (Nat.ne_of_lt Z1.out.2.1) (Nat.ne_of_lt Z1.out.2.2) hs0 zz.out false A4 m4 c4 s; have K9 := Lib.hid K8.six; have Fin : Hid (RelI w g A n c xs e1 k B m d ys e2 w2.heap.size A4 m4 c4 ts s V (World.put w4 w2.heap.size false A4 m4 c4 s)) := ⟨K8, zz.out.put _ _ _ _ _, zz.out.lim hl4 _ _ _ _ _, hv4, hm4⟩; clear hl4 hb4 hv4 hB4 K8))
        all_goals (go_wp2_with fail)
        all_goals go_meet
        all_goals (refine ⟨_, m4, c4, A4, ts, rfl, ?_⟩)
        all_goals (with_reducible exact Fin)
      case rest =>
        obtain ⟨wA, rfl⟩ : ∃ wA, wA = wc := ⟨_, rfl⟩
        obtain ⟨q, m5, c5, A5, es, rfl, HR⟩ := hcut
        have K0 := Lib.hid (HR.out.below (below_drew _))
        have HO : Hid (∀ u, RelI w g A n c xs e1 k B m d ys e2 q A5 m5 c5 es s V u → Calls Tryd.prog 23 #[.int .i64 1] u (Tells1 u false 1 1 0)) := fun u hu => by
          have h := dof_nat 1 (by decide) false 1 0 u hu.1.2.2.2.2.1 rfl
          exact h
        have HC : Hid (∀ u A6 m6 c6 us, RelI w g A n c xs e1 k B m d ys e2 q A5 m5 c5 es s V u → Lim u A6 m6 c6 us → val us = 1 → m6 ≤ 1 → Calls Tryd.prog 24 #[.agg #[.bool false, .slice A6 m6 c6, .int .i64 0], .agg #[.bool false, .slice A5 m5 c5, .int .i64 s]] u fun e w' => e = .returned (.int .i64 v) ∧ Below u.heap.size u w') := fun u A6 m6 c6 us hu h1 h2 h3 =>
          dcmp_l v false A6 m6 c6 us 0 false A5 m5 c5 es s u h1 hu.2.2.1 (by omega) (by have := hu.2.2.2.2; omega) hu.1.2.2.2.2.1 (by show _ = _; rw [h2, hu.2.2.2.1]; exact hv'.out)
        clear HR HP hv' cur F1 Z1
        go_wp2_with fail
        go_region_held3 (fun w' => w'.cell? ⟨q, 0, none⟩ = some (.bool false) ∧ w'.cell? ⟨q, 1, none⟩ = some (.slice A5 m5 c5) ∧ w'.cell? ⟨q, 2, none⟩ = some (.int .i64 s))
          (first | (with_reducible exact K0.out.three) | (with_reducible exact K1.out.three) | (with_reducible exact K2.out.three))
          (first
            | (go_at_call 23; (with_reducible refine (HO.out _ K0.out).mono ?_); rintro e w5 ⟨A6, m6, c6, us, rfl, hm6, hl6, hb6, hv6, hB6⟩; have K1 := Lib.hid (K0.out.below hB6); have L6 := Lib.hid hl6; have V6 := Lib.hid hv6; clear hl6 hb6 hv6 hB6)
            | (go_at_call 24; (with_reducible refine (HC.out _ A6 m6 c6 us K1.out L6.out V6.out hm6).mono ?_); rintro e w6 ⟨rfl, hB6⟩; have K2 := Lib.hid (K1.out.below hB6); clear hB6))
        all_goals (
          have Hfin := Lib.hid K2.out.old
          clear K0 K1 K2 HO HC L6 V6
          go_wp2_with fail
          go_ret
          exact ⟨rfl, Hfin.out⟩)
end Go.Proofs.YteflihpnhgicfaaDoor
