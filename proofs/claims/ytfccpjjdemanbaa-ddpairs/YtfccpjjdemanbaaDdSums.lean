/- The walk of DdSums. -/
import Derived.Test.YtfccpjjdemanbaaDdWhole
import Derived.Test.YtfccpjjdemanbaaDdAlive
namespace Go.Proofs.Ytfccpjjdemanbaa
open Go.RowKit

theorem sf_fin {b : Nat} (h : Sf b) : Fnt b := by
  show fex b ≠ 2047
  rcases h with h | h
  · intro h1
    unfold fkd at h
    rw [h1] at h
    simp at h
    split at h <;> (try split at h) <;> omega
  · omega
/-- A safe number is nought, or of 53 bits at a place. -/
theorem sf_val {b : Nat} (h : Sf b) : fvI b = 0 ∨ (423 ≤ fex b ∧ fex b ≤ 1623 ∧ fE b = fex b - 1 ∧ 4503599627370496 ≤ fm b ∧ fm b < 9007199254740992) := by
  have hp := f_parts b
  rcases h with h | h
  · refine Or.inl ?_
    have h1 : fex b = 0 ∧ ffr b = 0 := by
      unfold fkd at h
      have := fex_lt b
      split at h
      · split at h
        · exact ⟨by assumption, by assumption⟩
        · omega
      · split at h
        · omega
        · split at h <;> (try split at h) <;> omega
    have h2 : fm b = 0 := by unfold fm; rw [if_pos h1.1]; exact h1.2
    unfold fvI
    rw [h2, Nat.zero_mul]
    split <;> rfl
  · exact Or.inr ⟨h.1, h.2, rfl, hp.2.2.1 (by unfold fE; omega), hp.2.1⟩
theorem sf_nb {k b : Nat} (hk : k = 1675) (hb : b < 18446744073709551616) (h : Sf b) : Nb k b := by
  refine ⟨hb, sf_fin h, ?_⟩
  rcases sf_val h with h0 | ⟨h1, h2, h3, h4, h5⟩
  · rw [h0]; exact Nat.zero_le _
  · rw [fvI_abs]
    have e : (2 : Nat) ^ k = 2 ^ 53 * 2 ^ (k - 53) := by rw [← Nat.pow_add]; congr 1; omega
    rw [e]
    exact Nat.mul_le_mul (by rw [p53]; omega) (Nat.pow_le_pow_right (by decide) (by omega))
/-- Sizes in order. -/
theorem size_le {a b : Nat} (fa : Fnt a) (h : b % 9223372036854775808 ≤ a % 9223372036854775808) : (fvI b).natAbs ≤ (fvI a).natAbs := by
  have hsame : ∀ x : Nat, fm (x % 9223372036854775808) = fm x ∧ fE (x % 9223372036854775808) = fE x := fun x => by
    have e1 : fex (x % 9223372036854775808) = fex x := by unfold fex; omega
    have e2 : ffr (x % 9223372036854775808) = ffr x := by unfold ffr; omega
    unfold fE fm
    rw [e1, e2]
    exact ⟨rfl, rfl⟩
  have hv : ∀ x : Nat, vX (x % 9223372036854775808) = (fvI x).natAbs * 2 ^ kb := fun x => by
    rw [fvI_abs, vX, (hsame x).1, (hsame x).2, Nat.pow_add, Nat.mul_assoc]
  have h1 : fex a ≠ 2047 := fa
  have h2 := vX_le h (by unfold fex at h1; omega)
  rw [hv, hv] at h2
  exact Nat.le_of_mul_le_mul_right h2 (Nat.two_pow_pos kb)

/-- The number's block, its digits and the pair's. -/
def HoldS (w0 : World) (bn : Nat) (g : Bool) (A : Option Addr) (n c : Nat) (ds : List Nat) (e0 : Int) (bp h l : Nat) (w : World) : Prop :=
  Bd w bn 29 g A n c e0 ∧ Dig w A n c ds ∧ Pb w bp h l ∧ Below w0.heap.size w0 w
theorem HoldS.below {w0 : World} {bn : Nat} {g : Bool} {A : Option Addr} {n c : Nat} {ds : List Nat} {e0 : Int} {bp h l : Nat} {w w' : World} (hh : HoldS w0 bn g A n c ds e0 bp h l w) (hb : Below w.heap.size w w') : HoldS w0 bn g A n c ds e0 bp h l w' :=
  ⟨hh.1.below hb, hh.2.1.below hb, hh.2.2.1.below hb, hh.2.2.2.trans (hb.mono hh.2.2.2.size)⟩

theorem ddSums_no (a b : Nat) (ha : a < 18446744073709551616) (hb : b < 18446744073709551616) (hs : ¬ (Sf a ∧ Sf b)) (w : World) :
    Calls Try.prog 3 #[.int .u64 (a : Int), .int .u64 (b : Int)] w fun e w' => e = .returned (.bool true) ∧ Below w.heap.size w w' := by
  obtain ⟨va, hva⟩ : ∃ v, decide (Sf a) = v := ⟨_, rfl⟩
  obtain ⟨vb, hvb⟩ : ∃ v, decide (Sf b) = v := ⟨_, rfl⟩
  have HL := Lib.hid (dalive_any w)
  have S1 := Lib.hid (fun u => safe_l va a ha u hva)
  have S2 := Lib.hid (fun u => safe_l vb b hb u hvb)
  have R1 := Lib.hid (fun u => rsafe_l va a ha u hva)
  have R2 := Lib.hid (fun u => rsafe_l vb b hb u hvb)
  have hab : va = false ∨ (va = true ∧ vb = false) := by
    cases va
    · exact Or.inl rfl
    · refine Or.inr ⟨rfl, ?_⟩
      cases vb
      · rfl
      · exact absurd ⟨of_decide_eq_true hva, of_decide_eq_true hvb⟩ hs
  have n1 : (va != va) = false := by cases va <;> rfl
  have n2 : (vb != vb) = false := by cases vb <;> rfl
  clear hva hvb hs ha hb
  go_enter Try.func3, Try.ntmps3
  go_wp2_with fail
  refine HL.out.mono ?_
  rintro e w1 ⟨rfl, hB1⟩
  have cur := Lib.hid hB1
  clear hB1 HL
  go_wp2_with fail
  refine (S1.out _).mono ?_
  rintro e w' ⟨rfl, rfl⟩
  go_wp2_with fail
  refine (R1.out _).mono ?_
  rintro e w2 ⟨rfl, hB⟩
  replace cur := Lib.hid (cur.out.trans (hB.mono cur.out.size))
  clear hB
  go_wp2_with fail
  refine (S2.out _).mono ?_
  rintro e w' ⟨rfl, rfl⟩
  go_wp2_with fail
  refine (R2.out _).mono ?_
  rintro e w3 ⟨rfl, hB⟩
  replace cur := Lib.hid (cur.out.trans (hB.mono cur.out.size))
  clear hB
  go_wp2_with fail
  refine (R1.out _).mono ?_
  rintro e w4 ⟨rfl, hB⟩
  replace cur := Lib.hid (cur.out.trans (hB.mono cur.out.size))
  clear hB R1 S1 S2
  rcases hab with rfl | ⟨rfl, rfl⟩
  · clear R2
    go_wp2
    go_ret
    exact ⟨rfl, cur.out⟩
  · go_wp2_with fail
    refine (R2.out _).mono ?_
    rintro e w5 ⟨rfl, hB⟩
    replace cur := Lib.hid (cur.out.trans (hB.mono cur.out.size))
    clear hB R2
    go_wp2
    go_ret
    exact ⟨rfl, cur.out⟩

theorem ddSums_yes (a b : Nat) (ha : a < 18446744073709551616) (hb : b < 18446744073709551616) (sa : Sf a) (sb : Sf b) (w : World) :
    Calls Try.prog 3 #[.int .u64 (a : Int), .int .u64 (b : Int)] w fun e w' => e = .returned (.bool true) ∧ Below w.heap.size w w' := by
  obtain ⟨k, hk⟩ : ∃ k, k = 1675 := ⟨_, rfl⟩
  have na := sf_nb hk ha sa
  have nb := sf_nb hk hb sb
  obtain ⟨s, r, q1, q2, q3, q4, q5⟩ := nb_sum (by omega) na nb
  obtain ⟨⟨og, oV, oE⟩, o1, o2, o3, o4, o5⟩ := sum_o na nb
  have hVl : oV ≤ 2 ^ (k + 1) := o2
  have hE1 : -1074 ≤ oE := o3
  have hE2 : oE ≤ 1024 := o4
  have hva : decide (Sf a) = true := decide_eq_true sa
  have hvb : decide (Sf b) = true := decide_eq_true sb
  have HL := Lib.hid (dalive_any w)
  have S1 := Lib.hid (fun u => safe_l true a ha u hva)
  have S2 := Lib.hid (fun u => safe_l true b hb u hvb)
  have R1 := Lib.hid (fun u => rsafe_l true a ha u hva)
  have R2 := Lib.hid (fun u => rsafe_l true b hb u hvb)
  have fa := frombits_e a
  have fb := frombits_e b
  have HW1 := worth_w a ha
  have HW2 := worth_w b hb
  have Z1 := Lib.hid (rsize_any a)
  have Z2 := Lib.hid (rsize_any b)
  have SW := Lib.hid (sum_w q1)
  have hl : (fvI a + fvI b).natAbs ≤ 2 ^ (k + 1) := add_le na.2.2 nb.2.2
  have key : ∀ s r : Nat, Nb (k + 3) s → Nb (k + 3) r → fvI s = rn (fvI a + fvI b) → fvI r = fvI a + fvI b - fvI s → Hid (∀ u A3 m3 c3 es3, Mn u oV A3 m3 c3 es3 →
      Calls Try.prog 14 #[.float .f64 s, .agg #[.bool og, .slice A3 m3 c3, .int .i64 oE]] u (fun e w' => e = .returned (.bool true) ∧ Below u.heap.size u w') ∧
      Calls Try.prog 15 #[.agg #[.float .f64 s, .float .f64 r], .agg #[.bool og, .slice A3 m3 c3, .int .i64 oE]] u (fun e w' => e = .returned (.bool true) ∧ Below u.heap.size u w')) := fun s r n1 n2 v1 v2 u A3 m3 c3 es3 hM => by
    have hm : m3 ≤ 132 := hM.len hVl (by omega)
    have hW : Wu ⟨og, D.val es3, oE⟩ (fvI a + fvI b) := by rw [hM.2.2]; exact o1
    refine ⟨near_w n1 (by omega) v1 (Nat.le_trans hl (Nat.pow_le_pow_right (by decide) (by omega))) og A3 m3 c3 es3 oE u hM.1 hM.2.1 (by omega) (by omega) (by omega) hW, whole_w n1 n2 (by omega) og A3 m3 c3 es3 oE u hM.1 hM.2.1 (by omega) (by omega) (by omega) ?_⟩
    rw [v2, show fvI s + (fvI a + fvI b - fvI s) = fvI a + fvI b by omega]
    exact hW
  have KP := key s r (q2.mono (by omega)) (q3.mono (by omega)) q4 q5
  have HQ : Hid (b % 9223372036854775808 ≤ a % 9223372036854775808 → ∃ s2 r2, QuickEqs a b s2 r2 ∧ Hid (∀ u A3 m3 c3 es3, Mn u oV A3 m3 c3 es3 →
      Calls Try.prog 14 #[.float .f64 s2, .agg #[.bool og, .slice A3 m3 c3, .int .i64 oE]] u (fun e w' => e = .returned (.bool true) ∧ Below u.heap.size u w') ∧
      Calls Try.prog 15 #[.agg #[.float .f64 s2, .float .f64 r2], .agg #[.bool og, .slice A3 m3 c3, .int .i64 oE]] u (fun e w' => e = .returned (.bool true) ∧ Below u.heap.size u w'))) := fun hle => by
    obtain ⟨s2, r2, p1, p2, p3, p4, p5⟩ := nb_quick2 (by omega) na nb (size_le na.2.1 hle)
    exact ⟨s2, r2, p1, key s2 r2 p2 p3 p4 p5⟩
  clear key
  generalize fO a = d1 at *
  generalize fO b = d2 at *
  obtain ⟨g1, V1, E1⟩ := d1
  obtain ⟨g2, V2, E2⟩ := d2
  have HW1 : Hid (∀ u, Calls Try.prog 12 #[.float .f64 a] u (NTold u ⟨g1, V1, E1⟩ 4)) := HW1
  have HW2 : Hid (∀ u, Calls Try.prog 12 #[.float .f64 b] u (NTold u ⟨g2, V2, E2⟩ 4)) := HW2
  have HA := Lib.hid o5
  obtain ⟨za, hza⟩ : ∃ z, a % 9223372036854775808 = z := ⟨_, rfl⟩
  obtain ⟨zb, hzb⟩ : ∃ z, b % 9223372036854775808 = z := ⟨_, rfl⟩
  rw [hza] at Z1 HQ
  rw [hzb] at Z2 HQ
  clear hza hzb o1 o2 o3 o4 o5 q1 q2 q3 q4 q5 hva hvb ha hb sa sb na nb hl hVl hk hE1 hE2
  go_enter Try.func3, Try.ntmps3
  go_wp2_with fail
  refine HL.out.mono ?_
  rintro e w1 ⟨rfl, hB1⟩
  have cur := Lib.hid hB1
  clear hB1 HL
  go_wp2_with fail
  refine (S1.out _).mono ?_
  rintro e w' ⟨rfl, rfl⟩
  go_wp2_with fail
  refine (R1.out _).mono ?_
  rintro e w2 ⟨rfl, hB⟩
  replace cur := Lib.hid (cur.out.trans (hB.mono cur.out.size))
  clear hB
  go_wp2_with fail
  refine (S2.out _).mono ?_
  rintro e w' ⟨rfl, rfl⟩
  go_wp2_with fail
  refine (R2.out _).mono ?_
  rintro e w3 ⟨rfl, hB⟩
  replace cur := Lib.hid (cur.out.trans (hB.mono cur.out.size))
  clear hB
  go_wp2_with fail
  refine (R1.out _).mono ?_
  rintro e w4 ⟨rfl, hB⟩
  replace cur := Lib.hid (cur.out.trans (hB.mono cur.out.size))
  clear hB R1 S1 S2
  go_wp2_with fail
  refine (R2.out _).mono ?_
  rintro e w5 ⟨rfl, hB⟩
  replace cur := Lib.hid (cur.out.trans (hB.mono cur.out.size))
  clear hB R2
  go_wp2_with fail
  refine (HW1.out _).mono ?_
  rintro e wa ⟨A1, m1, c1, es1, rfl, hm1, hl1, hd1, hv1, hB⟩
  replace cur := Lib.hid (cur.out.trans (hB.mono cur.out.size))
  have L1 : Hid (Mn wa V1 A1 m1 c1 es1) := ⟨hl1, hd1, hv1⟩
  clear hB hl1 hd1 hv1 HW1
  go_wp2_with fail
  refine (HW2.out _).mono ?_
  rintro e wb ⟨A2, m2, c2, es2, rfl, hm2, hl2, hd2, hv2, hB⟩
  replace cur := Lib.hid (cur.out.trans (hB.mono cur.out.size))
  replace L1 := Lib.hid (L1.out.below hB)
  have L2 : Hid (Mn wb V2 A2 m2 c2 es2) := ⟨hl2, hd2, hv2⟩
  clear hB hl2 hd2 hv2 HW2
  go_wp2_with fail
  refine (HA.out A1 m1 c1 es1 A2 m2 c2 es2 wb L1.out.1 L2.out.1 L1.out.2.1 L2.out.2.1 (by omega) (by omega) L1.out.2.2 L2.out.2.2).mono ?_
  rintro e wd ⟨A3, m3, c3, es3, rfl, hm3, hl3, hd3, hv3, hB⟩
  replace cur := Lib.hid (cur.out.trans (hB.mono cur.out.size))
  have k3 := Lib.hid (Bd.new wd 29 og A3 m3 c3 oE)
  have L3 : Hid (Mn (wd.alloc (.cells #[.bool og, .slice A3 m3 c3, .int .i64 oE] 29)) oV A3 m3 c3 es3) := Mn.below ⟨hl3, hd3, hv3⟩ (below1 _ _)
  replace cur := Lib.hid (cur.out.trans ((below1 wd (.cells #[.bool og, .slice A3 m3 c3, .int .i64 oE] 29)).mono cur.out.size))
  clear hB hl3 hd3 hv3 HA L1 L2 hm1 hm2 hm3
  go_wp2_with fail
  refine (SW.out _).mono ?_
  rintro e we ⟨rfl, hB⟩
  have H0 : HoldS w wd.heap.size og A3 m3 c3 es3 oE we.heap.size s r (we.alloc (.cells #[.float .f64 s, .float .f64 r] 33)) :=
    ⟨(k3.out.below hB).alloc _, ((L3.out.below hB).below (below1 _ _)).1, Pb.new _ _ _, (cur.out.trans (hB.mono cur.out.size)).trans ((below1 we _).mono (cur.out.trans (hB.mono cur.out.size)).size)⟩
  have hL : Hid (D.Bare es3 ∧ D.val es3 = oV) := L3.out.2
  have x0 := (k3.out.below hB).c0
  have x1 := (k3.out.below hB).c1
  have x2 := (k3.out.below hB).c2
  have xl := (k3.out.below hB).lt
  have cur := Lib.hid H0
  clear hB H0 k3 L3 SW
  go_wp2_with fail
  refine ((KP.out _ A3 m3 c3 es3 ⟨cur.out.2.1, hL.out⟩).1).mono ?_
  rintro e wf ⟨rfl, hB⟩
  replace cur := Lib.hid (cur.out.below hB)
  clear hB x0 x1 x2 xl
  have x0 := cur.out.1.c0
  have x1 := cur.out.1.c1
  have x2 := cur.out.1.c2
  have y0 := cur.out.2.2.1.c0
  have y1 := cur.out.2.2.1.c1
  go_wp2_with fail
  refine ((KP.out _ A3 m3 c3 es3 ⟨cur.out.2.1, hL.out⟩).2).mono ?_
  rintro e wg ⟨rfl, hB⟩
  replace cur := Lib.hid (cur.out.below hB)
  clear hB x0 x1 x2 y0 y1 KP
  go_wp2_with fail
  refine (Z1.out _).mono ?_
  rintro e w' ⟨rfl, rfl⟩
  go_wp2_with fail
  refine (Z2.out _).mono ?_
  rintro e w' ⟨rfl, rfl⟩
  clear Z1 Z2
  by_cases hle : zb ≤ za
  · have t1 : decide ((zb : Int) ≤ (za : Int)) = true := decide_eq_true (by omega)
    obtain ⟨s2, r2, qe, K2⟩ := HQ.out hle
    have QW := Lib.hid (quick_w qe)
    clear qe HQ
    go_wp2_with fail
    refine (QW.out _).mono ?_
    rintro e wh ⟨rfl, hB⟩
    replace cur := Lib.hid (cur.out.below hB)
    clear hB QW
    have H0 : HoldS w wd.heap.size og A3 m3 c3 es3 oE wh.heap.size s2 r2 (wh.alloc (.cells #[.float .f64 s2, .float .f64 r2] 33)) :=
      ⟨cur.out.1.alloc _, cur.out.2.1.alloc _, Pb.new _ _ _, cur.out.2.2.2.trans ((below1 wh _).mono cur.out.2.2.2.size)⟩
    have x0 := cur.out.1.c0
    have x1 := cur.out.1.c1
    have x2 := cur.out.1.c2
    have xl := cur.out.1.lt
    clear cur
    have cur := Lib.hid H0
    clear H0
    go_wp2_with fail
    refine ((K2.out _ A3 m3 c3 es3 ⟨cur.out.2.1, hL.out⟩).1).mono ?_
    rintro e wi ⟨rfl, hB⟩
    replace cur := Lib.hid (cur.out.below hB)
    clear hB x0 x1 x2 xl
    have x0 := cur.out.1.c0
    have x1 := cur.out.1.c1
    have x2 := cur.out.1.c2
    have y0 := cur.out.2.2.1.c0
    have y1 := cur.out.2.2.1.c1
    go_wp2_with fail
    refine ((K2.out _ A3 m3 c3 es3 ⟨cur.out.2.1, hL.out⟩).2).mono ?_
    rintro e wj ⟨rfl, hB⟩
    replace cur := Lib.hid (cur.out.below hB)
    clear hB x0 x1 x2 y0 y1 K2
    go_wp2
    go_ret
    exact ⟨rfl, cur.out.2.2.2⟩
  · have t1 : decide ((zb : Int) ≤ (za : Int)) = false := decide_eq_false (by omega)
    have t2 : decide (zb ≤ za) = false := decide_eq_false hle
    clear HQ hle
    go_wp2
    go_ret
    exact ⟨rfl, cur.out.2.2.2⟩

theorem walk_ddSums (a0 a1 : Int) (w : World) (h0 : 0 ≤ a0) (h1 : a0 ≤ 18446744073709551615) (h2 : 0 ≤ a1) (h3 : a1 ≤ 18446744073709551615) :
    Calls Try.prog 3 #[.int .u64 a0, .int .u64 a1] w fun e w' => e = .returned (.bool true) ∧ Below w.heap.size w w' := by
  obtain ⟨a, rfl⟩ := Int.eq_ofNat_of_zero_le h0
  obtain ⟨b, rfl⟩ := Int.eq_ofNat_of_zero_le h2
  by_cases hs : Sf a ∧ Sf b
  · exact ddSums_yes a b (by omega) (by omega) hs.1 hs.2 w
  · exact ddSums_no a b (by omega) (by omega) hs w
end Go.Proofs.Ytfccpjjdemanbaa
