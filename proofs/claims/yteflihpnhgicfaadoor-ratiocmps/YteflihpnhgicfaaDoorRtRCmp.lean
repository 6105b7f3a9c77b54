/- The walk of planimeterref10.Cmp. -/
import Derived.Test.YteflihpnhgicfaaDoorRtRef
import Derived.Test.YteflihpnhgicfaaDoorK3
namespace Go.Proofs.YteflihpnhgicfaaDoor
open Go.RowKit

/-- Two numbers of the document, each in a block. -/
def RelC (w : World) (b1 : Nat) (A : Option Addr) (n c : Nat) (ds : List Nat) (e1 : Int) (b2 : Nat) (B : Option Addr) (m d : Nat) (es : List Nat) (e2 : Int) (u : World) : Prop :=
  HoldL w b1 false A n c ds e1 u ∧ HoldL w b2 false B m d es e2 u
section
variable {w : World} {b1 : Nat} {A : Option Addr} {n c : Nat} {ds : List Nat} {e1 : Int} {b2 : Nat} {B : Option Addr} {m d : Nat} {es : List Nat} {e2 : Int} {u u' : World}
theorem RelC.below (h : RelC w b1 A n c ds e1 b2 B m d es e2 u) (hb : Below u.heap.size u u') : RelC w b1 A n c ds e1 b2 B m d es e2 u' := ⟨h.1.below hb, h.2.below hb⟩
theorem RelC.six (h : RelC w b1 A n c ds e1 b2 B m d es e2 u) : Six u b1 false A n c e1 b2 false B m d e2 := h.1.1.six h.2.1
theorem RelC.dig1 (h : RelC w b1 A n c ds e1 b2 B m d es e2 u) : Dig u A n c ds := h.1.dig
theorem RelC.dig2 (h : RelC w b1 A n c ds e1 b2 B m d es e2 u) : Dig u B m d es := h.2.dig
theorem RelC.old (h : RelC w b1 A n c ds e1 b2 B m d es e2 u) : Below w.heap.size w u := h.1.old
end
/-- .. and a third. -/
def RelD (w : World) (b1 : Nat) (A : Option Addr) (n c : Nat) (ds : List Nat) (e1 : Int) (b2 : Nat) (B : Option Addr) (m d : Nat) (es : List Nat) (e2 : Int) (b3 : Nat) (C : Option Addr) (p q : Nat) (fs : List Nat) (e3 : Int) (u : World) : Prop :=
  RelC w b1 A n c ds e1 b2 B m d es e2 u ∧ HoldL w b3 false C p q fs e3 u
section
variable {w : World} {b1 : Nat} {A : Option Addr} {n c : Nat} {ds : List Nat} {e1 : Int} {b2 : Nat} {B : Option Addr} {m d : Nat} {es : List Nat} {e2 : Int} {b3 : Nat} {C : Option Addr} {p q : Nat} {fs : List Nat} {e3 : Int} {u u' : World}
theorem RelD.below (h : RelD w b1 A n c ds e1 b2 B m d es e2 b3 C p q fs e3 u) (hb : Below u.heap.size u u') : RelD w b1 A n c ds e1 b2 B m d es e2 b3 C p q fs e3 u' := ⟨h.1.below hb, h.2.below hb⟩
theorem RelD.nine (h : RelD w b1 A n c ds e1 b2 B m d es e2 b3 C p q fs e3 u) : Six u b1 false A n c e1 b2 false B m d e2 ∧ u.cell? ⟨b3, 0, none⟩ = some (.bool false) ∧ u.cell? ⟨b3, 1, none⟩ = some (.slice C p q) ∧ u.cell? ⟨b3, 2, none⟩ = some (.int .i64 e3) := ⟨h.1.six, h.2.three⟩
theorem RelD.dig1 (h : RelD w b1 A n c ds e1 b2 B m d es e2 b3 C p q fs e3 u) : Dig u A n c ds := h.1.dig1
theorem RelD.dig2 (h : RelD w b1 A n c ds e1 b2 B m d es e2 b3 C p q fs e3 u) : Dig u B m d es := h.1.dig2
theorem RelD.dig3 (h : RelD w b1 A n c ds e1 b2 B m d es e2 b3 C p q fs e3 u) : Dig u C p q fs := h.2.dig
theorem RelD.old (h : RelD w b1 A n c ds e1 b2 B m d es e2 b3 C p q fs e3 u) : Below w.heap.size w u := h.1.old
end
theorem cq_sz {V U : Nat} {e f : Int} (h1 : -1073741824 ≤ e) (h2 : e ≤ 1073741824) (h3 : -1073741824 ≤ f) (h4 : f ≤ 1073741824) : cmpZ (sz V e) (sz U f) = cq V e U f := by
  rw [← cq_dw h1 h2 h3 h4]
  show _ = cmpI (sz V e : Int) (sz U f : Int)
  rcases Nat.lt_trichotomy (sz V e) (sz U f) with h | h | h
  · rw [cmpZ_lt h, cmpI_lt (by omega)]
  · rw [cmpZ_eq h, cmpI_eq (by omega)]
  · rw [cmpZ_gt h, cmpI_gt (by omega)]
theorem pow_digits_of {V m K : Nat} (h : blen V * m < 16 * K) : V ^ m < D.pw K := by
  rw [D.pw_two]
  exact Nat.lt_of_le_of_lt (pow_bits V m) (Nat.pow_lt_pow_right (by decide) h)
theorem pow_digits {V m : Nat} (h : blen V * m ≤ 3000) : V ^ m < D.pw 188 := pow_digits_of (by omega)

set_option maxHeartbeats 4000000 in
set_option maxRecDepth 20000 in
theorem cmp10_l (v : Int) (V : Nat) (E : Int) (A : Option Addr) (n c : Nat) (ds : List Nat) (i : Int) (U : Nat) (F : Int) (B : Option Addr) (m d : Nat) (es : List Nat) (k : Nat) (w : World) (hA : Dig w A n c ds) (hB : Dig w B m d es) (ba : D.Bare ds) (bb : D.Bare es) (hn : n ≤ 1000) (hm : m ≤ 1000) (hV : D.val ds = V) (hU : D.val es = U) (hV1 : 1 ≤ V) (hU1 : 1 ≤ U)
    (hk : k ≤ 1000000) (hi1 : -1000000 ≤ i) (hi2 : i ≤ 1000000) (q1 : blen V * i.natAbs ≤ 3000) (q2 : blen U * k ≤ 3000) (q3 : E.natAbs * i.natAbs ≤ 60000) (q4 : F.natAbs * k ≤ 60000) (hv : Hid (ratC V E i U F k = v)) :
    Calls Tryd.prog 20 #[.agg #[.bool false, .slice A n c, .int .i64 E], .int .i64 i, .agg #[.bool false, .slice B m d, .int .i64 F], .int .i64 (k : Int)] w fun e w' => e = .returned (.int .i64 v) ∧ Below w.heap.size w w' := by
  have h0 := HN.start w false A n c ds E false B m d es F hA hB
  have p2 := abs_mul_le q4
  have HP2 := pow10_pos 188 U F B m d es k _ h0.2.2.2.1 bb hU hU1 (by omega) (by omega) (by decide) (pow_digits q2) (by omega) (by omega)
  obtain ⟨Q, hQ⟩ : ∃ Q, U ^ k = Q := ⟨_, rfl⟩
  obtain ⟨T, hT⟩ : ∃ T, F * (k : Int) = T := ⟨_, rfl⟩
  rw [show powD ⟨false, U, F⟩ k = ⟨false, Q, T⟩ by unfold powD; simp only [Bool.false_and]; rw [hQ, hT]] at HP2
  replace HP2 := Lib.hid HP2
  rw [hT] at p2
  have hQ1 : 1 ≤ Q := by rw [← hQ]; exact Nat.pow_pos hU1
  have hv' := hv.out
  have HL1 : Hid (HoldL w w.heap.size false A n c ds E _) := ⟨h0.1, h0.2.2.1, h0.2.2.2.2⟩
  have pT1 : -60000 ≤ T := by omega
  have pT2 : T ≤ 60000 := by omega
  clear hA hB h0 hv bb hU q2 q4 p2
  go_enter Tryd.func20, Tryd.ntmps20
  go_wp2_with fail
  refine HP2.out.mono ?_
  rintro e w1 ⟨B1, m1, d1, fs, rfl, hm1, hl1, hb1, hv1, hB1⟩
  simp only at hv1
  have s1 := (HL1.out.below hB1).old
  have HR : Hid (RelC w w.heap.size A n c ds E w1.heap.size B1 m1 d1 fs T (w1.alloc (.cells #[.bool false, .slice B1 m1 d1, .int .i64 T] 28))) :=
    ⟨(HL1.out.below hB1).below (below1 _ _), ⟨Bd.new w1 _ _ _ _ _ _, hl1.alloc _, s1.alloc s1.size _⟩⟩
  have HF : Hid (D.Bare fs ∧ D.val fs = Q) := ⟨hb1, hv1⟩
  clear hB1 hl1 hb1 hv1 HL1 HP2 s1
  by_cases hneg : i < 0
  · have b1 : decide (0 ≤ i) = false := decide_eq_false (by omega)
    obtain ⟨ii, hii⟩ : ∃ ii : Nat, -i = (ii : Int) := ⟨(-i).toNat, by omega⟩
    have hia : i.natAbs = ii := by omega
    rw [hia] at q1 q3
    have p1 := abs_mul_le q3
    have hii0 : ii ≠ 0 := by omega
    have HP1 := pow10_pos 188 V E A n c ds ii _ HR.out.dig1 ba hV hV1 (by omega) (by omega) (by decide) (pow_digits q1) (by omega) (by omega)
    obtain ⟨P, hP⟩ : ∃ P, V ^ ii = P := ⟨_, rfl⟩
    obtain ⟨S, hS⟩ : ∃ S, E * (ii : Int) = S := ⟨_, rfl⟩
    rw [show powD ⟨false, V, E⟩ ii = ⟨false, P, S⟩ by unfold powD; simp only [Bool.false_and]; rw [hP, hS]] at HP1
    replace HP1 := Lib.hid HP1
    rw [hS] at p1
    have hP1 : 1 ≤ P := by rw [← hP]; exact Nat.pow_pos hV1
    have hvv : cq 1 0 (P * Q) (S + T) = v := by
      rw [← hv', show i = -(ii : Int) by omega, ratC_neg hii0, hP, hS, hQ, hT]
    have pS1 : -60000 ≤ S := by omega
    have pS2 : S ≤ 60000 := by omega
    obtain ⟨R, hR⟩ : ∃ R, S + T = R := ⟨_, rfl⟩
    rw [hR] at hvv
    have hwR : IntKind.i64.wrap R = R := by rw [IntKind.wrap_i64]; omega
    have pR1 : -120000 ≤ R := by omega
    have pR2 : R ≤ 120000 := by omega
    have x0 := HR.out.1.1.c0
    have x1 := HR.out.1.1.c1
    have x2 := HR.out.1.1.c2
    clear hv' hQ hT hP hS p1 q1 q3 hneg hia hii0 ba hV hV1 hU1
    go_wp2_with fail
    refine HP1.out.mono ?_
    rintro e w2 ⟨A2, m2, c2, gs, rfl, hm2, hl2, hb2, hv2, hB2⟩
    simp only at hv2
    have k2 := HR.out.2.below hB2
    have K3 : HoldL w w2.heap.size false A2 m2 c2 gs S (w2.alloc (.cells #[.bool false, .slice A2 m2 c2, .int .i64 S] 28)) :=
      ⟨Bd.new w2 _ _ _ _ _ _, hl2.alloc _, k2.old.alloc k2.old.size _⟩
    have KQ := k2.below (below1 w2 (.cells #[.bool false, .slice A2 m2 c2, .int .i64 S] 28))
    have HG : Hid (D.Bare gs ∧ D.val gs = P) := ⟨hb2, hv2⟩
    have a3 := below1 (w2.alloc (.cells #[.bool false, .slice A2 m2 c2, .int .i64 S] 28)) (.cells #[.int .u32 1] 40)
    have a4 := below1 ((w2.alloc (.cells #[.bool false, .slice A2 m2 c2, .int .i64 S] 28)).alloc (.cells #[.int .u32 1] 40)) (.cells #[.bool false, .slice (some ⟨w2.heap.size + 1, 0, none⟩) 1 1, .int .i64 0] 28)
    have n1 := dig_new1 (w2.alloc (.cells #[.bool false, .slice A2 m2 c2, .int .i64 S] 28)) 40 1 1 rfl (by decide)
    rw [World.size_alloc] at n1
    have b3 := Bd.new ((w2.alloc (.cells #[.bool false, .slice A2 m2 c2, .int .i64 S] 28)).alloc (.cells #[.int .u32 1] 40)) 28 false (some ⟨w2.heap.size + 1, 0, none⟩) 1 1 0
    rw [World.size_alloc, World.size_alloc] at b3
    have KP4 := (K3.below a3).below a4
    have KR : RelD w w2.heap.size A2 m2 c2 gs S w1.heap.size B1 m1 d1 fs T (w2.heap.size + 1 + 1) (some ⟨w2.heap.size + 1, 0, none⟩) 1 1 [1] 0 _ := ⟨⟨KP4, (KQ.below a3).below a4⟩, ⟨b3, n1.below a4, KP4.old⟩⟩
    have K0 := Lib.hid (KR.below (below_drew _))
    have HM : Hid (∀ u, RelD w w2.heap.size A2 m2 c2 gs S w1.heap.size B1 m1 d1 fs T (w2.heap.size + 1 + 1) (some ⟨w2.heap.size + 1, 0, none⟩) 1 1 [1] 0 u → Calls Tryd.prog 39 #[.slice A2 m2 c2, .slice B1 m1 d1] u (DTells u (P * Q) 400)) := fun u hu => by
      have h := rmul_any A2 m2 c2 gs B1 m1 d1 fs u hu.dig1 hu.dig2 (by omega) (by omega)
      rw [HG.out.2, HF.out.2] at h
      exact h.mono fun _ _ h9 => h9.wider (by omega)
    have HC : Hid (∀ u A5 m5 c5 us, RelD w w2.heap.size A2 m2 c2 gs S w1.heap.size B1 m1 d1 fs T (w2.heap.size + 1 + 1) (some ⟨w2.heap.size + 1, 0, none⟩) 1 1 [1] 0 u → Dig u A5 m5 c5 us → D.Bare us → D.val us = P * Q → m5 ≤ 400 → Calls Tryd.prog 38 #[.agg #[.bool false, .slice (some ⟨w2.heap.size + 1, 0, none⟩) 1 1, .int .i64 0], .agg #[.bool false, .slice A5 m5 c5, .int .i64 R]] u fun e w' => e = .returned (.int .i64 v) ∧ Below u.heap.size u w') := fun u A5 m5 c5 us hu r1 r2 r3 r4 =>
      rncmp_l v (some ⟨w2.heap.size + 1, 0, none⟩) 1 1 [1] 0 A5 m5 c5 us R u hu.dig3 r1 (dbare_one (by decide)) r2 (by decide) (by omega) (by rw [r3]; exact Nat.ne_of_gt (Nat.mul_pos hP1 hQ1)) (by decide) (by decide) (by omega) (by omega) (by show _ = _; rw [dval_one, r3, cq_sz (by decide) (by decide) (by omega) (by omega)]; exact hvv)
    clear hB2 hl2 hb2 hv2 HP1 HR K3 KQ k2 x0 x1 x2 a3 a4 n1 b3 KP4 KR HG HF hvv hP1 hQ1
    go_wp2_with fail
    go_region_held3 (fun w' => Six w' w2.heap.size false A2 m2 c2 S w1.heap.size false B1 m1 d1 T ∧ w'.cell? ⟨w2.heap.size + 1 + 1, 0, none⟩ = some (.bool false) ∧ w'.cell? ⟨w2.heap.size + 1 + 1, 1, none⟩ = some (.slice (some ⟨w2.heap.size + 1, 0, none⟩) 1 1) ∧ w'.cell? ⟨w2.heap.size + 1 + 1, 2, none⟩ = some (.int .i64 0))
      (first | (with_reducible exact K0.out.nine) | (with_reducible exact K1.out.nine) | (with_reducible exact K2.out.nine))
      (first
        | (go_at_call 39; (with_reducible refine (HM.out _ K0.out).mono ?_); rintro e w5 ⟨A5, m5, c5, us, rfl, hm5, hl5, hb5, hv5, hB5⟩; have K1 := Lib.hid (K0.out.below hB5); have L5 := Lib.hid hl5; have N5 := Lib.hid hb5; have V5 := Lib.hid hv5; clear hl5 hb5 hv5 hB5)
        | (go_at_call 38; (with_reducible refine (HC.out _ A5 m5 c5 us K1.out L5.out N5.out V5.out hm5).mono ?_); rintro e w6 ⟨rfl, hB6⟩; have K2 := Lib.hid (K1.out.below hB6); clear hB6))
    all_goals (
      have Hfin := Lib.hid K2.out.old
      clear K0 K1 K2 HM HC L5 N5 V5
      go_wp2_with fail
      go_ret
      exact ⟨rfl, Hfin.out⟩)
  · have b1 : decide (0 ≤ i) = true := decide_eq_true (by omega)
    obtain ⟨ii, rfl⟩ : ∃ ii : Nat, i = (ii : Int) := ⟨i.toNat, by omega⟩
    rw [Int.natAbs_natCast] at q1 q3
    have p1 := abs_mul_le q3
    obtain ⟨P, hP⟩ : ∃ P, V ^ ii = P := ⟨_, rfl⟩
    obtain ⟨S, hS⟩ : ∃ S, E * (ii : Int) = S := ⟨_, rfl⟩
    have HP1 : Hid (∀ u, RelC w w.heap.size A n c ds E w1.heap.size B1 m1 d1 fs T u → Calls Tryd.prog 16 #[.agg #[.bool false, .slice A n c, .int .i64 E], .int .i64 (ii : Int)] u (NTold u ⟨false, P, S⟩ 188)) := fun u hu => by
      have h := pow10_pos 188 V E A n c ds ii u hu.dig1 ba hV hV1 (by omega) (by omega) (by decide) (pow_digits q1) (by omega) (by omega)
      rw [show powD ⟨false, V, E⟩ ii = ⟨false, P, S⟩ by unfold powD; simp only [Bool.false_and]; rw [hP, hS]] at h
      exact h
    rw [hS] at p1
    have hvv : cq P S Q T = v := by rw [← hv', ratC_pos, hP, hS, hQ, hT]
    have pS1 : -60000 ≤ S := by omega
    have pS2 : S ≤ 60000 := by omega
    have HC : Hid (∀ u A5 m5 c5 us, RelC w w.heap.size A n c ds E w1.heap.size B1 m1 d1 fs T u → Dig u A5 m5 c5 us → D.Bare us → D.val us = P → m5 ≤ 188 → Calls Tryd.prog 38 #[.agg #[.bool false, .slice A5 m5 c5, .int .i64 S], .agg #[.bool false, .slice B1 m1 d1, .int .i64 T]] u fun e w' => e = .returned (.int .i64 v) ∧ Below u.heap.size u w') := fun u A5 m5 c5 us hu r1 r2 r3 r4 =>
      rncmp_l v A5 m5 c5 us S B1 m1 d1 fs T u r1 hu.dig2 r2 HF.out.1 (by omega) (by omega) (by rw [HF.out.2]; omega) (by omega) (by omega) (by omega) (by omega) (by show _ = _; rw [HF.out.2, r3, cq_sz (by omega) (by omega) (by omega) (by omega)]; exact hvv)
    have K0 := Lib.hid (HR.out.below (below_drew _))
    clear HR HF hvv hv' hQ hT hP hS p1 q1 q3 hneg ba hV hV1 hU1 hQ1
    go_wp2_with fail
    go_region_held3 (fun w' => Six w' w.heap.size false A n c E w1.heap.size false B1 m1 d1 T)
      (first | (with_reducible exact K0.out.six) | (with_reducible exact K1.out.six) | (with_reducible exact K2.out.six))
      (first
        | (go_at_call 16; (with_reducible refine (HP1.out _ K0.out).mono ?_); rintro e w5 ⟨A5, m5, c5, us, rfl, hm5, hl5, hb5, hv5, hB5⟩; have K1 := Lib.hid (K0.out.below hB5); have L5 := Lib.hid hl5; have N5 := Lib.hid hb5; have V5 := Lib.hid hv5; clear hl5 hb5 hv5 hB5)
        | (go_at_call 38; (with_reducible refine (HC.out _ A5 m5 c5 us K1.out L5.out N5.out V5.out hm5).mono ?_); rintro e w6 ⟨rfl, hB6⟩; have K2 := Lib.hid (K1.out.below hB6); clear hB6))
    all_goals (
      have Hfin := Lib.hid K2.out.old
      clear K0 K1 K2 HP1 HC L5 N5 V5
      go_wp2_with fail
      go_ret
      exact ⟨rfl, Hfin.out⟩)
end Go.Proofs.YteflihpnhgicfaaDoor
