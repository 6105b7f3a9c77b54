/- Which bits are safe: dd.Safe, and the document's. -/
import Derived.Test.YtfccpjjdemanbaaDdOps
import Derived.Test.YtfccpjjdemanbaaJ1
import Derived.Test.YtfccpjjdemanbaaJ2
namespace Go.Proofs.Ytfccpjjdemanbaa
open Go.RowKit

/-- A nought, or a number of an exponent from 423 to 1623. -/
def Sf (b : Nat) : Prop := fkd b = 0 ∨ (423 ≤ fex b ∧ fex b ≤ 1623)
instance (b : Nat) : Decidable (Sf b) := inferInstanceAs (Decidable (_ ∨ _))

theorem fkd_two {b : Nat} (h1 : fex b ≠ 0) (h2 : fex b ≠ 2047) : fkd b = 2 := by
  have := fex_lt b
  unfold fkd
  rw [if_neg h1, if_pos (by omega)]
theorem fkd_not {b : Nat} (h : fkd b = 2) : fex b ≠ 0 ∧ fex b ≠ 2047 := by
  unfold fkd at h
  constructor
  · intro h1; simp [h1] at h; split at h <;> omega
  · intro h1; simp [h1] at h; split at h <;> (try split at h) <;> omega

theorem safe_l (v : Bool) (b : Nat) (hb : b < 18446744073709551616) (w : World) (hv : Hid (decide (Sf b) = v)) : Calls Try.prog 8 #[.int .u64 (b : Int)] w fun e w' => e = .returned (.bool v) ∧ w = w' := by
  obtain ⟨q, hq⟩ : ∃ q, fkd b = q := ⟨_, rfl⟩
  have HK := Lib.hid (fkind_l q b hb w hq)
  have hv' := hv.out
  by_cases q0 : q = 0
  · subst q0
    obtain rfl : v = true := by rw [← hv']; exact decide_eq_true (Or.inl hq)
    clear hq hv hv' hb
    go_enter Try.func8, Try.ntmps8
    go_wp2_with fail
    refine HK.out.mono ?_
    rintro e w' ⟨rfl, rfl⟩
    clear HK
    go_wp2
    go_ret
    exact ⟨rfl, rfl⟩
  · have c0 : ((q : Int) == 0) = false := beq_no (by omega)
    by_cases q2 : q = 2
    · subst q2
      have e1 := and_ex b hb
      have hx := fex_lt b
      have hv2 : decide (423 ≤ fex b ∧ fex b ≤ 1623) = v := by
        rw [← hv']
        unfold Sf
        simp [hq]
      obtain ⟨P, hP⟩ : ∃ P : Nat, fex b * 4503599627370496 = P := ⟨_, rfl⟩
      rw [hP] at e1
      have e2 : (P : Int) / 4503599627370496 = (fex b : Int) := by omega
      have hP9 : P < 9223372036854775808 := by omega
      clear hP
      generalize fex b = x at *
      have HV := Lib.hid hv2
      clear hq hv hv' hv2 hb q0
      go_enter Try.func8, Try.ntmps8
      go_wp2_with fail
      refine HK.out.mono ?_
      rintro e w' ⟨rfl, rfl⟩
      clear HK
      by_cases x1 : 423 ≤ x
      · by_cases x2 : x ≤ 1623
        · obtain rfl : v = true := by rw [← HV.out]; exact decide_eq_true ⟨x1, x2⟩
          have d1 : decide ((x : Int) ≤ 1623) = true := decide_eq_true (by omega)
          go_wp2
          go_ret
          exact ⟨rfl, rfl⟩
        · obtain rfl : v = false := by rw [← HV.out]; exact decide_eq_false (fun h => x2 h.2)
          have d1 : decide ((x : Int) ≤ 1623) = false := decide_eq_false (by omega)
          go_wp2
          go_ret
          exact ⟨rfl, rfl⟩
      · obtain rfl : v = false := by rw [← HV.out]; exact decide_eq_false (fun h => x1 h.1)
        go_wp2
        go_ret
        exact ⟨rfl, rfl⟩
    · have c2 : ((q : Int) == 2) = false := beq_no (by omega)
      have hv2 : v = false := by
        rw [← hv']
        refine decide_eq_false ?_
        rintro (h | h)
        · exact q0 (hq.symm.trans h)
        · exact q2 (hq.symm.trans (fkd_two (by omega) (by omega)))
      subst hv2
      clear hq hv hv' hb q0 q2
      go_enter Try.func8, Try.ntmps8
      go_wp2_with fail
      refine HK.out.mono ?_
      rintro e w' ⟨rfl, rfl⟩
      clear HK
      go_wp2
      go_ret
      exact ⟨rfl, rfl⟩

theorem blen_low {V : Nat} (h0 : V ≠ 0) : blen V = blen (V / 2 ^ low V) + low V ∧ V / 2 ^ low V ≠ 0 := by
  obtain ⟨q, hq⟩ := low_spec (Nat.pos_of_ne_zero h0)
  have h2 : V / 2 ^ low V * 2 ^ low V = V := Nat.div_mul_cancel ⟨_, hq⟩
  have h3 : V / 2 ^ low V ≠ 0 := fun h => h0 (by rw [← h2, h, Nat.zero_mul])
  have h4 := blen_shl (n := low V) h3
  rw [h2] at h4
  exact ⟨h4, h3⟩
/-- Where a number's greatest bit stands. -/
theorem rtop_fO {b : Nat} (h0 : fm b ≠ 0) (hf : Fnt b) : rtop (fO b).V (fO b).e = (blen (fm b) : Int) - 1 + fe b := by
  have hbd := fe_bd hf
  have e : fO b = nO (fng b) (fm b) (fe b) := rfl
  rw [e, nO_pos _ _ h0, held_id (by omega) (by omega)]
  show (blen (fm b / 2 ^ low (fm b)) : Int) - 1 + (fe b + (low (fm b) : Int)) = _
  have h4 := (blen_low h0).1
  omega
theorem norm_top {b : Nat} (h : fkd b = 2) : rtop (fO b).V (fO b).e = (fex b : Int) - 1023 := by
  obtain ⟨h1, h2⟩ := fkd_not h
  have hm : fm b = ffr b + 4503599627370496 := by unfold fm; rw [if_neg h1]
  have hl := ffr_lt b
  have hB : blen (fm b) = 53 := by
    refine Nat.le_antisymm (blen_le_iff.2 (by rw [hm, p53]; omega)) ?_
    rcases Nat.lt_or_ge (blen (fm b)) 53 with h9 | h9
    · have := blen_le_iff.1 (show blen (fm b) ≤ 52 by omega)
      rw [hm, ← p52] at this
      omega
    · exact h9
  rw [rtop_fO (by omega) h2, hB]
  unfold fe fE
  omega

theorem rof_exp (b : Nat) : -4294967296 ≤ (fO b).e ∧ (fO b).e ≤ 4294967296 := by
  have e : fO b = nO (fng b) (fm b) (fe b) := rfl
  have h1 : -1074 ≤ fe b ∧ fe b ≤ 1000 := by
    have := fex_lt b
    unfold fe fE
    omega
  by_cases h0 : fm b = 0
  · rw [e, h0, nO_zero]
    decide
  · rw [e, nO_pos _ _ h0, held_id (by omega) (by omega)]
    have h2 := (blen_low h0).1
    have h3 : blen (fm b) ≤ 53 := blen_le_iff.2 (by rw [p53]; exact (f_parts b).2.1)
    show -4294967296 ≤ fe b + (low (fm b) : Int) ∧ fe b + (low (fm b) : Int) ≤ 4294967296
    omega

theorem rsafe_l (v : Bool) (b : Nat) (hb : b < 18446744073709551616) (w : World) (hv : Hid (decide (Sf b) = v)) : Calls Try.prog 9 #[.int .u64 (b : Int)] w fun e w' => e = .returned (.bool v) ∧ Below w.heap.size w w' := by
  obtain ⟨q, hq⟩ : ∃ q, fkd b = q := ⟨_, rfl⟩
  have HK := fun u => rkind_l q b hb u hq
  have HK := Lib.hid HK
  have hv' := hv.out
  by_cases q0 : q = 0
  · subst q0
    obtain rfl : v = true := by rw [← hv']; exact decide_eq_true (Or.inl hq)
    clear hq hv hv' hb
    go_enter Try.func9, Try.ntmps9
    go_wp2_with fail
    refine (HK.out _).mono ?_
    rintro e w' ⟨rfl, rfl⟩
    clear HK
    go_wp2
    go_ret
    exact ⟨rfl, Below.refl _ _⟩
  · have c0 : ((q : Int) == 0) = false := beq_no (by omega)
    have HW := worth_any b hb w
    obtain ⟨⟨dg, dV, dE⟩, hd⟩ : ∃ d, fO b = d := ⟨_, rfl⟩
    rw [hd] at HW
    have HW := Lib.hid HW
    by_cases q2 : q = 2
    · subst q2
      have hT := norm_top hq
      rw [hd] at hT
      have hfE : -4294967296 ≤ dE ∧ dE ≤ 4294967296 := by
        have h9 := rof_exp b
        rw [hd] at h9
        exact h9
      have HT : Hid (∀ u A m c es, Dig u A m c es → D.Bare es → D.val es = dV → m ≤ 4 → Calls Try.prog 21 #[.agg #[.bool dg, .slice A m c, .int .i64 dE]] u fun e w' => e = .returned (.int .i64 ((fex b : Int) - 1023)) ∧ Below u.heap.size u w') := fun u A m c es k1 k2 k3 k4 =>
        rtop_l _ dg A m c es dE u k1 k2 (by omega) hfE.1 hfE.2 (by show _ = _; rw [k3]; exact hT)
      have hv2 : decide (423 ≤ fex b ∧ fex b ≤ 1623) = v := by
        rw [← hv']
        unfold Sf
        simp [hq]
      have hx := fex_lt b
      generalize fex b = x at *
      obtain ⟨z, hz⟩ : ∃ z : Int, (x : Int) - 1023 = z := ⟨_, rfl⟩
      rw [hz] at HT
      have HV := Lib.hid hv2
      have Hz := Lib.hid hz
      clear hq hv hv' hv2 hb q0 hT hd hfE hz
      go_enter Try.func9, Try.ntmps9
      go_wp2_with fail
      refine (HK.out _).mono ?_
      rintro e w' ⟨rfl, rfl⟩
      go_wp2_with fail
      refine HW.out.mono ?_
      rintro e w1 ⟨A1, m1, c1, es, rfl, hm1, hl1, hd1, hv1, hB1⟩
      have HD := Lib.hid hl1
      have HB := Lib.hid hB1
      have HE := Lib.hid (And.intro hd1 hv1)
      clear hl1 hB1 hd1 hv1 HW
      go_wp2_with fail
      refine (HK.out _).mono ?_
      rintro e w' ⟨rfl, rfl⟩
      have d1 := HD.out.alloc (.cells #[.bool dg, .slice A1 m1 c1, .int .i64 dE] 29)
      have k1 := Bd.new w1 29 dg A1 m1 c1 dE
      have HT1 := Lib.hid (HT.out _ A1 m1 c1 es d1 HE.out.1 HE.out.2 hm1)
      have d1 := Lib.hid d1
      have k1 := Lib.hid k1
      have b1 := Lib.hid (HB.out.trans ((below1 w1 (.cells #[.bool dg, .slice A1 m1 c1, .int .i64 dE] 29)).mono HB.out.size))
      clear HK HB HD
      go_wp2_with fail
      refine HT1.out.mono ?_
      rintro e w2 ⟨rfl, hB2⟩
      have k2 := k1.out.below hB2
      have y0 := k2.c0
      have y1 := k2.c1
      have y2 := k2.c2
      have HT2 := Lib.hid (HT.out _ A1 m1 c1 es (d1.out.below hB2) HE.out.1 HE.out.2 hm1)
      have b2 := Lib.hid (b1.out.trans (hB2.mono b1.out.size))
      clear k2 hB2 b1 k1 d1 HT1 HE
      by_cases x1 : 423 ≤ x
      · have e1 : decide (-600 ≤ z) = true := decide_eq_true (by have := Hz.out; omega)
        go_wp2_with fail
        refine HT2.out.mono ?_
        rintro e w3 ⟨rfl, hB3⟩
        have b3 := Lib.hid (b2.out.trans (hB3.mono b2.out.size))
        clear hB3 b2 HT2 HT y0 y1 y2
        by_cases x2 : x ≤ 1623
        · obtain rfl : v = true := by rw [← HV.out]; exact decide_eq_true ⟨x1, x2⟩
          have e2 : decide (z ≤ 600) = true := decide_eq_true (by have := Hz.out; omega)
          go_wp2
          go_ret
          exact ⟨rfl, b3.out⟩
        · obtain rfl : v = false := by rw [← HV.out]; exact decide_eq_false (fun h => x2 h.2)
          have e2 : decide (z ≤ 600) = false := decide_eq_false (by have := Hz.out; omega)
          go_wp2
          go_ret
          exact ⟨rfl, b3.out⟩
      · obtain rfl : v = false := by rw [← HV.out]; exact decide_eq_false (fun h => x1 h.1)
        have e1 : decide (-600 ≤ z) = false := decide_eq_false (by have := Hz.out; omega)
        clear HT2 HT y0 y1 y2
        go_wp2
        go_ret
        exact ⟨rfl, b2.out⟩
    · have c2 : ((q : Int) == 2) = false := beq_no (by omega)
      have hv2 : v = false := by
        rw [← hv']
        refine decide_eq_false ?_
        rintro (h | h)
        · exact q0 (hq.symm.trans h)
        · exact q2 (hq.symm.trans (fkd_two (by omega) (by omega)))
      subst hv2
      clear hq hv hv' hb q0 q2 hd
      go_enter Try.func9, Try.ntmps9
      go_wp2_with fail
      refine (HK.out _).mono ?_
      rintro e w' ⟨rfl, rfl⟩
      go_wp2_with fail
      refine HW.out.mono ?_
      rintro e w1 ⟨A1, m1, c1, es, rfl, hm1, hl1, hd1, hv1, hB1⟩
      have b1 := Lib.hid (hB1.trans ((below1 w1 (.cells #[.bool dg, .slice A1 m1 c1, .int .i64 dE] 29)).mono hB1.size))
      clear HW hm1 hl1 hd1 hv1 hB1
      go_wp2_with fail
      refine (HK.out _).mono ?_
      rintro e w' ⟨rfl, rfl⟩
      clear HK
      go_wp2
      go_ret
      exact ⟨rfl, b1.out⟩
end Go.Proofs.Ytfccpjjdemanbaa
