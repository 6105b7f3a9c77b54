/- Masks; the walks of float.Neg, Finite, Kind, size; the document's Kind and Size. -/
import Derived.Test.YtgacafdkhailmaaDoorFlMath
import Derived.Test.YtgacafdkhailmaaDoorDyOrd
namespace Go.Proofs.YtgacafdkhailmaaDoor
open Go.RowKit

theorem and_shift (x m s : Nat) : x &&& (m <<< s) = ((x >>> s) &&& m) <<< s := by
  apply Nat.eq_of_testBit_eq
  intro i
  simp only [Nat.testBit_and, Nat.testBit_shiftLeft, Nat.testBit_shiftRight]
  by_cases h : s ≤ i
  · simp [h]
  · simp [h]
theorem mask_ex (b : Nat) : b &&& 9218868437227405312 = fex b * 4503599627370496 := by
  rw [show (9218868437227405312 : Nat) = 2047 <<< 52 from by decide, and_shift, show (2047 : Nat) = 2 ^ 11 - 1 from by decide, Nat.and_two_pow_sub_one_eq_mod, Nat.shiftLeft_eq, Nat.shiftRight_eq_div_pow]
  rfl
theorem mask_fr (b : Nat) : b &&& 4503599627370495 = ffr b := by
  rw [show (4503599627370495 : Nat) = 2 ^ 52 - 1 from by decide, Nat.and_two_pow_sub_one_eq_mod]
  rfl
theorem mask_one (b s : Nat) : b &&& (2 ^ s) = b / 2 ^ s % 2 * 2 ^ s := by
  have h := and_shift b 1 s
  rw [Nat.and_one_is_mod, Nat.shiftLeft_eq, Nat.shiftLeft_eq, Nat.shiftRight_eq_div_pow, Nat.one_mul] at h
  exact h

theorem and_ex (b : Nat) (hb : b < 18446744073709551616) : bits BinOp.and IntKind.u64 (b : Int) 9218868437227405312 = ((fex b * 4503599627370496 : Nat) : Int) := by
  have h := bits_and_u64_nat b 9218868437227405312 hb (by decide)
  rw [mask_ex] at h
  exact h
theorem and_fr (b : Nat) (hb : b < 18446744073709551616) : bits BinOp.and IntKind.u64 (b : Int) 4503599627370495 = (ffr b : Int) := by
  have h := bits_and_u64_nat b 4503599627370495 hb (by decide)
  rw [mask_fr] at h
  exact h
theorem and_sign (b : Nat) (hb : b < 18446744073709551616) : bits BinOp.and IntKind.u64 (b : Int) 9223372036854775808 = ((b / 9223372036854775808 * 9223372036854775808 : Nat) : Int) := by
  have h := bits_and_u64_nat b 9223372036854775808 hb (by decide)
  have h2 := mask_one b 63
  rw [show (2 : Nat) ^ 63 = 9223372036854775808 from by decide, show b / 9223372036854775808 % 2 = b / 9223372036854775808 by omega] at h2
  rw [h2] at h
  exact h
theorem and_quiet (f : Nat) (hf : f < 4503599627370496) : bits BinOp.and IntKind.u64 (f : Int) 2251799813685248 = ((f / 2251799813685248 * 2251799813685248 : Nat) : Int) := by
  have h := bits_and_u64_nat f 2251799813685248 (by omega) (by decide)
  have h2 := mask_one f 51
  rw [show (2 : Nat) ^ 51 = 2251799813685248 from by decide, show f / 2251799813685248 % 2 = f / 2251799813685248 by omega] at h2
  rw [h2] at h
  exact h
theorem or_unit (f : Nat) (hf : f < 4503599627370496) : bits BinOp.or IntKind.u64 (f : Int) 4503599627370496 = ((f + 4503599627370496 : Nat) : Int) := by
  have h := bits_or_u64_nat f 4503599627370496 (by omega) (by decide)
  have h2 : f ||| 4503599627370496 = f + 4503599627370496 := by
    have := Nat.shiftLeft_add_eq_or_of_lt (i := 52) (b := f) (show f < 2 ^ 52 from hf) 1
    rw [Nat.or_comm, Nat.add_comm]
    exact this.symm
  rw [h2] at h
  exact h
theorem or_sign (X : Nat) (hX : X < 9223372036854775808) : bits BinOp.or IntKind.u64 9223372036854775808 (X : Int) = ((9223372036854775808 + X : Nat) : Int) := by
  have h := bits_or_u64_nat 9223372036854775808 X (by decide) (by omega)
  have h2 : 9223372036854775808 ||| X = 9223372036854775808 + X :=
    (Nat.shiftLeft_add_eq_or_of_lt (i := 63) (b := X) (show X < 2 ^ 63 from hX) 1).symm
  rw [h2] at h
  exact h

theorem bne_no {x y : Int} (h : x = y) : (x != y) = false := by rw [h]; simp
theorem bne_yes {x y : Int} (h : x ≠ y) : (x != y) = true := by simpa using h
theorem beq_no {x y : Int} (h : x ≠ y) : (x == y) = false := by simpa using h
theorem beq_yes {x y : Int} (h : x = y) : (x == y) = true := by simpa using h

theorem fneg_l (v : Bool) (b : Nat) (hb : b < 18446744073709551616) (w : World) (hv : Hid (fng b = v)) : Calls Tryd.prog 30 #[.int .u64 (b : Int)] w fun e w' => e = .returned (.bool v) ∧ w = w' := by
  have h1 := and_sign b hb
  obtain ⟨P, hP⟩ : ∃ P, b / 9223372036854775808 * 9223372036854775808 = P := ⟨_, rfl⟩
  rw [hP] at h1
  have Hv : Hid (((P : Int) != 0) = v) := by
    rw [← hv.out]
    show ((P : Int) != 0) = fng b
    unfold fng
    by_cases h : 9223372036854775808 ≤ b
    · rw [decide_eq_true h]; exact bne_yes (by omega)
    · rw [decide_eq_false h]; exact bne_no (by omega)
  clear hP hb hv
  go_enter Tryd.func30, Tryd.ntmps30
  go_wp2
  go_ret
  exact ⟨congrArg (fun v => Ending.returned (.bool v)) Hv.out, rfl⟩
theorem ffin_l (v : Bool) (b : Nat) (hb : b < 18446744073709551616) (w : World) (hv : Hid (decide (Fnt b) = v)) : Calls Tryd.prog 24 #[.int .u64 (b : Int)] w fun e w' => e = .returned (.bool v) ∧ w = w' := by
  have h1 := and_ex b hb
  obtain ⟨P, hP⟩ : ∃ P, fex b * 4503599627370496 = P := ⟨_, rfl⟩
  rw [hP] at h1
  have Hv : Hid (((P : Int) != 9218868437227405312) = v) := by
    rw [← hv.out]
    show ((P : Int) != 9218868437227405312) = decide (Fnt b)
    by_cases h : Fnt b
    · rw [decide_eq_true h]
      have h' : fex b ≠ 2047 := h
      exact bne_yes (by omega)
    · rw [decide_eq_false h]
      have h' : fex b = 2047 := Decidable.not_not.1 h
      exact bne_no (by omega)
  clear hP hb hv
  go_enter Tryd.func24, Tryd.ntmps24
  go_wp2
  go_ret
  exact ⟨congrArg (fun v => Ending.returned (.bool v)) Hv.out, rfl⟩

theorem fkind_l (v : Nat) (b : Nat) (hb : b < 18446744073709551616) (w : World) (hv : Hid (fkd b = v)) : Calls Tryd.prog 26 #[.int .u64 (b : Int)] w fun e w' => e = .returned (.int .i64 (v : Int)) ∧ w = w' := by
  have h1 := and_ex b hb
  have h2 := and_fr b hb
  have h3 := and_quiet (ffr b) (ffr_lt b)
  have hv' := hv.out
  have hx := fex_lt b
  have hy := ffr_lt b
  unfold fkd at hv'
  generalize fex b = x at *
  generalize ffr b = y at *
  obtain ⟨P, hP⟩ : ∃ P, x * 4503599627370496 = P := ⟨_, rfl⟩
  obtain ⟨T, hT⟩ : ∃ T, y / 2251799813685248 * 2251799813685248 = T := ⟨_, rfl⟩
  rw [hP] at h1
  rw [hT] at h3
  clear hb hv
  by_cases hx0 : x = 0
  · rw [if_pos hx0] at hv'
    have c1 : ((P : Int) == 0) = true := beq_yes (by omega)
    by_cases hy0 : y = 0
    · rw [if_pos hy0] at hv'
      have c2 : ((y : Int) == 0) = true := beq_yes (by omega)
      subst hv'
      clear hx0 hy0 hP hT hx hy
      go_enter Tryd.func26, Tryd.ntmps26
      go_wp2
      go_ret
      exact ⟨rfl, rfl⟩
    · rw [if_neg hy0] at hv'
      have c2 : ((y : Int) == 0) = false := beq_no (by omega)
      subst hv'
      clear hx0 hy0 hP hT hx hy
      go_enter Tryd.func26, Tryd.ntmps26
      go_wp2
      go_ret
      exact ⟨rfl, rfl⟩
  · rw [if_neg hx0] at hv'
    have c1 : ((P : Int) == 0) = false := beq_no (by omega)
    by_cases hx1 : x < 2047
    · rw [if_pos hx1] at hv'
      have c2 : ((P : Int) != 9218868437227405312) = true := bne_yes (by omega)
      subst hv'
      clear hx0 hx1 hP hT hx hy
      go_enter Tryd.func26, Tryd.ntmps26
      go_wp2
      go_ret
      exact ⟨rfl, rfl⟩
    · rw [if_neg hx1] at hv'
      have c2 : ((P : Int) != 9218868437227405312) = false := bne_no (by omega)
      by_cases hy0 : y = 0
      · rw [if_pos hy0] at hv'
        have c3 : ((y : Int) == 0) = true := beq_yes (by omega)
        subst hv'
        clear hx0 hx1 hy0 hP hT hx hy
        go_enter Tryd.func26, Tryd.ntmps26
        go_wp2
        go_ret
        exact ⟨rfl, rfl⟩
      · rw [if_neg hy0] at hv'
        have c3 : ((y : Int) == 0) = false := beq_no (by omega)
        by_cases hy1 : 2251799813685248 ≤ y
        · rw [if_pos hy1] at hv'
          have c4 : ((T : Int) != 0) = true := bne_yes (by omega)
          subst hv'
          clear hx0 hx1 hy0 hy1 hP hT hx hy
          go_enter Tryd.func26, Tryd.ntmps26
          go_wp2
          go_ret
          exact ⟨rfl, rfl⟩
        · rw [if_neg hy1] at hv'
          have c4 : ((T : Int) != 0) = false := bne_no (by omega)
          subst hv'
          clear hx0 hx1 hy0 hy1 hP hT hx hy
          go_enter Tryd.func26, Tryd.ntmps26
          go_wp2
          go_ret
          exact ⟨rfl, rfl⟩

theorem rsize_any (b : Nat) (w : World) : Calls Tryd.prog 13 #[.int .u64 (b : Int)] w fun e w' => e = .returned (.int .u64 ((b % 9223372036854775808 : Nat) : Int)) ∧ w = w' := by
  obtain ⟨r, hr⟩ : ∃ r, b % 9223372036854775808 = r := ⟨_, rfl⟩
  have HR : Hid ((b : Int) % 9223372036854775808 = (r : Int)) := by show _ = _; omega
  rw [hr]
  clear hr
  go_enter Tryd.func13, Tryd.ntmps13
  go_wp2
  go_ret
  exact ⟨congrArg (fun v => Ending.returned (.int .u64 v)) HR.out, rfl⟩


set_option maxRecDepth 20000 in
theorem rkind_l (v : Nat) (b : Nat) (hb : b < 18446744073709551616) (w : World) (hv : Hid (fkd b = v)) : Calls Tryd.prog 12 #[.int .u64 (b : Int)] w fun e w' => e = .returned (.int .i64 (v : Int)) ∧ w = w' := by
  obtain ⟨z, hz⟩ : ∃ z, b / 4503599627370496 = z := ⟨_, rfl⟩
  have e0 : (b : Int) / 4503599627370496 = (z : Int) := by omega
  have hzx : fex b = z % 2048 := by rw [← hz]; rfl
  have e1 : (z : Int) % 2048 = (fex b : Int) := by rw [hzx]; omega
  have e2 : (b : Int) % 4503599627370496 = (ffr b : Int) := by unfold ffr; omega
  have hv' := hv.out
  have hx := fex_lt b
  have hy := ffr_lt b
  unfold fkd at hv'
  have hz9 : z < 4096 := by omega
  clear hzx
  generalize fex b = x at *
  generalize ffr b = y at *
  clear hv hz hb
  by_cases hx0 : x = 0
  · rw [if_pos hx0] at hv'
    have c1 : ((x : Int) == 0) = true := beq_yes (by omega)
    by_cases hy0 : y = 0
    · rw [if_pos hy0] at hv'
      have c2 : ((y : Int) == 0) = true := beq_yes (by omega)
      subst hv'
      clear hx0 hy0 hy
      go_enter Tryd.func12, Tryd.ntmps12
      go_wp2
      go_ret
      exact ⟨rfl, rfl⟩
    · rw [if_neg hy0] at hv'
      have c2 : ((y : Int) == 0) = false := beq_no (by omega)
      subst hv'
      clear hx0 hy0 hy
      go_enter Tryd.func12, Tryd.ntmps12
      go_wp2
      go_ret
      exact ⟨rfl, rfl⟩
  · rw [if_neg hx0] at hv'
    have c1 : ((x : Int) == 0) = false := beq_no (by omega)
    by_cases hx1 : x < 2047
    · rw [if_pos hx1] at hv'
      have c2 : decide ((x : Int) < 2047) = true := decide_eq_true (by omega)
      subst hv'
      clear hx0 hy
      go_enter Tryd.func12, Tryd.ntmps12
      go_wp2
      go_ret
      exact ⟨rfl, rfl⟩
    · rw [if_neg hx1] at hv'
      have c2 : decide ((x : Int) < 2047) = false := decide_eq_false (by omega)
      by_cases hy0 : y = 0
      · rw [if_pos hy0] at hv'
        have c3 : ((y : Int) == 0) = true := beq_yes (by omega)
        subst hv'
        clear hx0 hx1 hy0 hy
        go_enter Tryd.func12, Tryd.ntmps12
        go_wp2
        go_ret
        exact ⟨rfl, rfl⟩
      · rw [if_neg hy0] at hv'
        have c3 : ((y : Int) == 0) = false := beq_no (by omega)
        by_cases hy1 : 2251799813685248 ≤ y
        · rw [if_pos hy1] at hv'
          have c4 : decide ((2251799813685248 : Int) ≤ (y : Int)) = true := decide_eq_true (by omega)
          have c5 : decide (2251799813685248 ≤ y) = true := decide_eq_true hy1
          subst hv'
          clear hx0 hx1 hy0 hy1 hy
          go_enter Tryd.func12, Tryd.ntmps12
          go_wp2
          go_ret
          exact ⟨rfl, rfl⟩
        · rw [if_neg hy1] at hv'
          have c4 : decide ((2251799813685248 : Int) ≤ (y : Int)) = false := decide_eq_false (by omega)
          have c5 : decide (2251799813685248 ≤ y) = false := decide_eq_false hy1
          subst hv'
          clear hx0 hx1 hy0 hy1 hy
          go_enter Tryd.func12, Tryd.ntmps12
          go_wp2
          go_ret
          exact ⟨rfl, rfl⟩

theorem fsize_l (M : Nat) (E : Int) (b : Nat) (hb : b < 18446744073709551616) (w : World) (hM : Hid (fm b = M)) (hE : Hid (fe b = E)) : Calls Tryd.prog 46 #[.int .u64 (b : Int)] w fun e w' => e = .returned (.tuple #[.int .u64 (M : Int), .int .i64 E]) ∧ w = w' := by
  have h1 := and_ex b hb
  have h2 := and_fr b hb
  have h3 := or_unit (ffr b) (ffr_lt b)
  have hx := fex_lt b
  have hM' := hM.out
  have hE' := hE.out
  unfold fm at hM'
  unfold fe fE at hE'
  generalize fex b = x at *
  generalize ffr b = y at *
  obtain ⟨P, hP⟩ : ∃ P, x * 4503599627370496 = P := ⟨_, rfl⟩
  rw [hP] at h1
  have h4 : (P : Int) / 4503599627370496 = (x : Int) := by omega
  have h5 : IntKind.i64.wrap (x : Int) = (x : Int) := by rw [IntKind.wrap_i64]; omega
  clear hb hM hE
  by_cases hx0 : x = 0
  · rw [if_pos hx0] at hM'
    subst hM'
    have c1 : ((x : Int) == 0) = true := beq_yes (by omega)
    obtain rfl : E = -1074 := by omega
    clear hx0 hP hE'
    go_enter Tryd.func46, Tryd.ntmps46
    go_wp2
    go_ret2
    exact ⟨rfl, rfl⟩
  · rw [if_neg hx0] at hM'
    rw [hM'] at h3
    have c1 : ((x : Int) == 0) = false := beq_no (by omega)
    have HE : Hid ((x : Int) - 1 + -1074 = E) := by show _ = _; omega
    clear hx0 hP hM' hE'
    go_enter Tryd.func46, Tryd.ntmps46
    go_wp2
    go_ret2
    exact ⟨by rw [← HE.out]; rfl, rfl⟩
end Go.Proofs.YtgacafdkhailmaaDoor
