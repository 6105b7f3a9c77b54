/- Texts joined into one, in build order: NxMath, NxUp, NxMid, NxBeside, NxBreak, NxFloor, NxBetween, NxLaw, NxBelow, NxRBrk, NxBreaks. -/
import Derived.Test.YtgacafdkhailmaaDoorB1
import Derived.Test.YtgacafdkhailmaaDoorDyAdd
import Derived.Deep.Cut
import Derived.Test.YtgacafdkhailmaaDoorFlAlive
/- Neighbours, middles and breakpoints of bits: numbers alone. -/
namespace Go.Proofs.YtgacafdkhailmaaDoor
open Go.RowKit

/-- The other sign. -/
def flp (b : Nat) : Nat := if fng b then b - 9223372036854775808 else b + 9223372036854775808
theorem flp_facts {b : Nat} (hb : b < 18446744073709551616) : flp b < 18446744073709551616 ∧ flp b % 9223372036854775808 = b % 9223372036854775808 ∧ fng (flp b) = !fng b ∧ flp (flp b) = b := by
  by_cases h : 9223372036854775808 ≤ b
  · have e1 : fng b = true := decide_eq_true h
    have e2 : flp b = b - 9223372036854775808 := by rw [flp, e1, if_pos rfl]
    have e3 : fng (flp b) = false := decide_eq_false (by omega)
    exact ⟨by omega, by omega, by rw [e3, e1]; rfl, by rw [flp, e3, if_neg (by decide)]; omega⟩
  · have e1 : fng b = false := decide_eq_false h
    have e2 : flp b = b + 9223372036854775808 := by rw [flp, e1, if_neg (by decide)]
    have e3 : fng (flp b) = true := decide_eq_true (by omega)
    exact ⟨by omega, by omega, by rw [e3, e1]; rfl, by rw [flp, e3, if_pos rfl]; omega⟩
theorem size_same {a b : Nat} (h : a % 9223372036854775808 = b % 9223372036854775808) : fm a = fm b ∧ fE a = fE b ∧ fe a = fe b ∧ (Fnt a ↔ Fnt b) ∧ fkd a = fkd b := by
  have e1 : fex a = fex b := by unfold fex; omega
  have e2 : ffr a = ffr b := by unfold ffr; omega
  unfold fe fE fm Fnt fkd
  rw [e1, e2]
  exact ⟨rfl, rfl, rfl, Iff.rfl, rfl⟩
theorem xor_two (b : Nat) (h : b < 9223372036854775808) : b ^^^ 9223372036854775808 = b + 9223372036854775808 := by
  have h1 : b ^^^ 9223372036854775808 = b ||| 9223372036854775808 := by
    apply Nat.eq_of_testBit_eq
    intro i
    rw [Nat.testBit_xor, Nat.testBit_or]
    by_cases hi : i = 63
    · subst hi
      rw [Nat.testBit_lt_two_pow (show b < 2 ^ 63 from h)]
      rfl
    · have : (9223372036854775808 : Nat).testBit i = false := by
        rw [show (9223372036854775808 : Nat) = 2 ^ 63 from by decide, Nat.testBit_two_pow]
        exact decide_eq_false (fun h => hi h.symm)
      rw [this]; simp
  rw [h1]
  have := Nat.shiftLeft_add_eq_or_of_lt (i := 63) (b := b) (show b < 2 ^ 63 from h) 1
  rw [Nat.or_comm, Nat.add_comm]
  exact this.symm
theorem xor_flp (b : Nat) (hb : b < 18446744073709551616) : bits .xor .u64 (b : Int) 9223372036854775808 = (flp b : Int) := by
  have h := bits_xor_u64_nat b 9223372036854775808 hb (by decide)
  have h2 : b ^^^ 9223372036854775808 = flp b := by
    by_cases hg : 9223372036854775808 ≤ b
    · have e1 : fng b = true := decide_eq_true hg
      rw [flp, e1, if_pos rfl]
      have h3 := xor_two (b - 9223372036854775808) (by omega)
      rw [Nat.sub_add_cancel hg] at h3
      obtain ⟨a, rfl⟩ : ∃ a, b = a + 9223372036854775808 := ⟨b - 9223372036854775808, by omega⟩
      rw [Nat.add_sub_cancel] at h3 ⊢
      rw [← h3, Nat.xor_assoc, Nat.xor_self, Nat.xor_zero]
    · have e1 : fng b = false := decide_eq_false hg
      rw [flp, e1, if_neg (by decide)]
      exact xor_two b (by omega)
  rw [h2] at h
  exact h
theorem nsign_off (x : Nat) (hx : x < 18446744073709551616) : bits .andNot .u64 (x : Int) 9223372036854775808 = ((x % 9223372036854775808 : Nat) : Int) := by
  show IntKind.u64.wrap ((BitVec.ofInt 64 (x : Int) &&& ~~~BitVec.ofInt 64 ((9223372036854775808 : Nat) : Int)).toNat : Int) = _
  have h1 : (BitVec.ofInt 64 (x : Int)).toNat = x := by
    rw [BitVec.ofInt_natCast, BitVec.toNat_ofNat]; exact Nat.mod_eq_of_lt (by omega)
  have h2 : (BitVec.ofInt 64 ((9223372036854775808 : Nat) : Int)).toNat = 9223372036854775808 := by
    rw [BitVec.ofInt_natCast, BitVec.toNat_ofNat]
  rw [BitVec.toNat_and, BitVec.toNat_not, h1, h2, show 2 ^ 64 - 1 - 9223372036854775808 = 2 ^ 63 - 1 from by decide, Nat.and_two_pow_sub_one_eq_mod, IntKind.wrap_u64]
  omega

theorem fin_lt {b : Nat} (hf : Fnt b) : b % 9223372036854775808 < 9218868437227405312 := by
  have h1 : fex b ≠ 2047 := hf
  unfold fex at h1
  omega
theorem fin_of_lt {b : Nat} (h : b % 9223372036854775808 < 9218868437227405312) : Fnt b := by
  show fex b ≠ 2047
  unfold fex
  omega
theorem fm_zero_iff (b : Nat) : fm b = 0 ↔ b % 9223372036854775808 = 0 := by
  obtain ⟨p1, p2, p3, _⟩ := f_parts b
  constructor
  · intro h
    rcases Nat.eq_zero_or_pos (fE b) with h9 | h9
    · rw [h9, h] at p1; omega
    · have := p3 h9; omega
  · intro h; rw [h] at p1; omega

/-- What is odd and near comes out as it is. -/
theorem mk_odd {g : Bool} {V m : Nat} {e : Int} (h : V = 2 * m + 1) (h1 : -1073741824 ≤ e) (h2 : e ≤ 1073741824) : mk g V e = some ⟨g, V, e⟩ := by
  have hl : low V = 0 := low_eq (l := 0) (m := m) (by rw [h]; omega)
  unfold mk toldD
  rw [hl, Nat.pow_zero, Nat.div_one, held_id h1 h2, if_neg (by omega), show e + ((0 : Nat) : Int) = e by omega, if_neg (by omega)]
theorem odd_uniq {V U m k : Nat} {e f : Int} (hV : V = 2 * m + 1) (hU : U = 2 * k + 1) (h1 : -1073741824 ≤ e) (h2 : e ≤ 1073741824) (h3 : -1073741824 ≤ f) (h4 : f ≤ 1073741824) (h : sz V e = sz U f) : V = U ∧ e = f := by
  unfold sz at h
  have a1 : low (V * 2 ^ sh e) = sh e := low_eq (m := m) (by rw [hV, Nat.mul_comm])
  have a2 : low (U * 2 ^ sh f) = sh f := low_eq (m := k) (by rw [hU, Nat.mul_comm])
  have a3 : sh e = sh f := by rw [← a1, h, a2]
  rw [a3] at h
  have b1 := sh_eq h1 h2
  have b2 := sh_eq h3 h4
  exact ⟨Nat.eq_of_mul_eq_mul_right (Nat.two_pow_pos _) h, by omega⟩

/-- The middle of some bits' size and the next one. -/
def midD (b : Nat) : Dy := ⟨fng b, 2 * fm b + 1, fe b - 1⟩
theorem mid_mk {b : Nat} (hf : Fnt b) : mk (fng b) (2 * fm b + 1) (fe b - 1) = some (midD b) := by
  have := fe_bd hf
  exact mk_odd rfl (by omega) (by omega)
theorem half_mk (g : Bool) {b : Nat} (hf : Fnt b) : mk g 1 (fe b - 1) = some ⟨g, 1, fe b - 1⟩ := by
  have := fe_bd hf
  exact mk_odd (m := 0) rfl (by omega) (by omega)
theorem mid_add {b : Nat} (hf : Fnt b) : addO (some (fO b)) (some ⟨fng b, 1, fe b - 1⟩) = some (midD b) := by
  show addB (fO b) ⟨fng b, 1, fe b - 1⟩ = some (midD b)
  by_cases h0 : fm b = 0
  · rw [fO_zero h0]
    unfold addB midD
    rw [if_pos rfl, h0]
  · obtain ⟨k1, k2, k3⟩ := fO_pos hf h0
    have hbd := fe_bd hf
    have hm := (f_parts b).2.1
    have hp := odd_part (fm b)
    have hV0 : (fO b).V ≠ 0 := by rw [k2]; exact fun h => h0 (odd_part_zero.1 h)
    have hl : low (fm b) < 53 := by
      refine (low_lt_iff (Nat.pos_of_ne_zero h0)).2 ?_
      show fm b % 9007199254740992 ≠ 0
      omega
    have hB : blen (fO b).V ≤ 53 := by
      refine blen_le_iff.2 ?_
      rw [k2]
      exact Nat.lt_of_le_of_lt (Nat.div_le_self _ _) hm
    have hx : (fO b).V * 2 ^ ((fO b).e - (fe b - 1)).toNat = 2 * fm b := by
      rw [k2, k3, show (fe b + (low (fm b) : Int) - (fe b - 1)).toNat = low (fm b) + 1 by omega, Nat.pow_succ, ← Nat.mul_assoc, hp]
      omega
    have h := addB_near (a := fO b) (b := ⟨fng b, 1, fe b - 1⟩) (lo := fe b - 1) (x := 2 * fm b) (y := 1) hV0 (by show (1 : Nat) ≠ 0; decide) (by rw [k3]; show min _ (fe b - 1) = _; omega) hx (by show 1 * 2 ^ (fe b - 1 - (fe b - 1)).toNat = 1; rw [Int.sub_self]; rfl) (by
      show max ((blen (fO b).V : Int) - 1 + (fO b).e) ((blen 1 : Int) - 1 + (fe b - 1)) - (fe b - 1) ≤ 65535
      rw [k3, show blen 1 = 1 from by decide]
      omega)
    rw [h, if_pos k1, k1]
    exact mid_mk hf
theorem mid_size {b : Nat} (hf : Fnt b) : 2 * sz (2 * fm b + 1) (fe b - 1) = vX (b % 9223372036854775808) + vX (b % 9223372036854775808 + 1) := by
  have hl := fin_lt hf
  have hbd := fe_bd hf
  obtain ⟨s1, s2, s3, _, _⟩ := size_same (a := b % 9223372036854775808) (b := b) (Nat.mod_mod _ _)
  rw [vX_next hl, vX, s1, s2, sz]
  have h1 := sh_eq (e := fe b - 1) (by omega) (by omega)
  have h2 : fe b = (fE b : Int) - 1074 := rfl
  have h3 := kb_eq
  have h4 : fE b + kb = sh (fe b - 1) + 1 := by omega
  rw [h4, Nat.pow_succ, Nat.add_mul, Nat.one_mul]
  generalize fm b = M
  generalize 2 ^ sh (fe b - 1) = P
  rw [← Nat.mul_assoc, Nat.mul_assoc 2 M P]
  omega
theorem mid_low {b : Nat} (hf : Fnt b) : IsLow (sz (2 * fm b + 1) (fe b - 1)) (b % 9223372036854775808) := by
  have hl := fin_lt hf
  have h1 := mid_size hf
  have h2 := vX_lt hl
  exact ⟨by omega, by omega, fun _ => by omega⟩
/-- The unit at a number. -/
theorem unit_fin {b : Nat} (hf : Fnt b) (h0 : fm b ≠ 0) : max ((blen (fO b).V : Int) - 1 + held (fO b).e - 52) (-1074) = fe b := by
  obtain ⟨k1, k2, k3⟩ := fO_pos hf h0
  have hbd := fe_bd hf
  have hp := odd_part (fm b)
  have hV0 : (fO b).V ≠ 0 := by rw [k2]; exact fun h => h0 (odd_part_zero.1 h)
  obtain ⟨_, p2, p3, p4⟩ := f_parts b
  have hl : low (fm b) < 53 := by
    refine (low_lt_iff (Nat.pos_of_ne_zero h0)).2 ?_
    show fm b % 9007199254740992 ≠ 0
    omega
  have hB : blen (fm b) = blen (fO b).V + low (fm b) := by
    rw [← blen_shl hV0, k2, hp]
  have hB1 : blen (fm b) ≤ 53 := blen_le_iff.2 p2
  have hB2 : 0 < fE b → blen (fm b) = 53 := fun h => blen_eq (k := 53) (p3 h) p2 (by decide)
  have hfe : fe b = (fE b : Int) - 1074 := rfl
  rw [k3, held_id (by omega) (by omega)]
  rcases Nat.eq_zero_or_pos (fE b) with h | h
  · omega
  · have := hB2 h; omega
theorem unit_zero {b : Nat} (h0 : fm b = 0) : fe b = -1074 := by
  have h1 := (f_parts b).2.2.1
  have hfe : fe b = (fE b : Int) - 1074 := rfl
  rcases Nat.eq_zero_or_pos (fE b) with h | h
  · omega
  · have := h1 h; omega

theorem nsz_inf {e : Int} (h : e = 1024) : sz 1 e = vX 9218868437227405312 := by
  have h1 := sh_eq (e := e) (by omega) (by omega)
  have h2 := kb_eq
  rw [vX_inf, sz, Nat.one_mul]
  congr 1
  omega
/-- What Break tells. -/
def brkO : Option Dy → Bool
  | none => false
  | some d => if d.V = 0 then true else if 1024 ≤ rtop d.V d.e then decide (rtop d.V d.e = 1024 ∧ d.e = 1024) else decide (ru d.V d.e - 1 ≤ d.e)
theorem rB_odd {V m : Nat} {e : Int} (u : Int) (h : V = 2 * m + 1) : rB V e u = false ↔ u - 1 ≤ e := by
  unfold rB
  by_cases hu : u ≤ e
  · rw [if_pos hu]
    exact ⟨fun _ => by omega, fun _ => rfl⟩
  · rw [if_neg hu, decide_eq_false_iff_not, Decidable.not_not]
    obtain ⟨k, hk⟩ : ∃ k, (u - e - 1).toNat = k := ⟨_, rfl⟩
    rw [hk]
    cases k with
    | zero => exact ⟨fun _ => by omega, fun _ => by rw [Nat.pow_zero, Nat.mod_one]⟩
    | succ j =>
      constructor
      · intro h0
        have h1 : 2 ∣ V := Nat.dvd_trans ⟨2 ^ j, by rw [Nat.pow_succ, Nat.mul_comm]⟩ (Nat.dvd_of_mod_eq_zero h0)
        omega
      · intro h0; omega
theorem brk_low {g : Bool} {V m : Nat} {e : Int} {X : Nat} (hV : V = 2 * m + 1) (h1 : -1073741824 ≤ e) (h2 : e ≤ 1073741824) (hX : IsLow (sz V e) X) :
    brkO (some ⟨g, V, e⟩) = true ↔ (X = 9218868437227405312 ∧ sz V e = vX 9218868437227405312) ∨ (X < 9218868437227405312 ∧ (sz V e = vX X ∨ 2 * sz V e = vX X + vX (X + 1))) := by
  have hV0 : V ≠ 0 := by omega
  obtain rfl := hX.uniq (low_is hV0 h1 h2)
  unfold brkO
  simp only
  rw [if_neg hV0]
  unfold lowX
  by_cases ht : 1023 < rtop V e
  · rw [if_pos (show 1024 ≤ rtop V e by omega), if_pos ht, decide_eq_true_iff]
    constructor
    · rintro ⟨k1, k2⟩
      refine Or.inl ⟨rfl, ?_⟩
      unfold rtop at k1
      have hB : blen V ≤ 1 := by omega
      have : V = 1 := by have := blen_le_iff.1 hB; omega
      rw [this]
      exact nsz_inf k2
    · rintro (⟨_, k⟩ | ⟨k, _⟩)
      · rw [← nsz_inf (e := 1024) rfl] at k
        obtain ⟨k1, k2⟩ := odd_uniq (k := 0) hV rfl h1 h2 (by decide) (by decide) k
        refine ⟨?_, k2⟩
        unfold rtop
        rw [k1, k2, show blen 1 = 1 from by decide]
        decide
      · omega
  · rw [if_neg (show ¬ 1024 ≤ rtop V e by omega), if_neg ht, decide_eq_true_iff, ← rB_odd (ru V e) hV]
    obtain ⟨r1, r2, r3, r4, r5⟩ := rnd_low hV0 h1 h2 (by omega)
    rw [r5]
    unfold bS
    rw [decide_eq_false_iff_not]
    constructor
    · intro k
      refine Or.inr ⟨r1, ?_⟩
      by_cases k1 : sz V e = vX (rX V e)
      · exact Or.inl k1
      · refine Or.inr ?_
        by_cases k2 : 2 * sz V e = vX (rX V e) + vX (rX V e + 1)
        · exact k2
        · exact absurd ⟨k1, k2⟩ k
    · rintro (⟨k, _⟩ | ⟨_, k⟩)
      · omega
      · rintro ⟨k1, k2⟩
        rcases k with k | k
        · exact k1 k
        · exact k2 k

/-- Is it worth that just? -/
def jst (V : Nat) (e u : Int) : Bool := if u ≤ e then true else decide (V % 2 ^ (u - e).toNat = 0)
/-- What Between tells. -/
def btwO : Option Dy → Nat × Nat × Bool
  | none => (0, 0, false)
  | some d => if d.V = 0 then (0, 0, true) else if 1024 ≤ rtop d.V d.e then (9218868437227405312, 9218868437227405312, true) else (rX d.V d.e, if jst d.V d.e (ru d.V d.e) then rX d.V d.e else rX d.V d.e + 1, true)
theorem jst_iff {V : Nat} {e : Int} (hV : V ≠ 0) (h1 : -1073741824 ≤ e) (h2 : e ≤ 1073741824) (ht : rtop V e ≤ 1023) : jst V e (ru V e) = true ↔ sz V e = vX (rX V e) := by
  obtain ⟨r1, r2, r3, r4, r5⟩ := rnd_low hV h1 h2 ht
  have hlt := vX_lt r1
  have hS' : hS (sz V e) (rX V e) = false ∧ bS (sz V e) (rX V e) = false ↔ sz V e = vX (rX V e) := by
    unfold hS bS
    rw [decide_eq_false_iff_not, decide_eq_false_iff_not]
    constructor
    · rintro ⟨k1, k2⟩
      by_cases k3 : sz V e = vX (rX V e)
      · exact k3
      · exact absurd ⟨k3, by omega⟩ k2
    · intro k; exact ⟨by omega, fun h => h.1 k⟩
  rw [← hS', ← r4, ← r5]
  unfold jst rH rB
  by_cases hu : ru V e ≤ e
  · rw [if_pos hu, if_pos hu, if_pos hu]; simp
  · rw [if_neg hu, if_neg hu, if_neg hu, show (ru V e - e).toNat = (ru V e - e - 1).toNat + 1 by omega]
    generalize (ru V e - e - 1).toNat = k
    rw [decide_eq_true_iff, decide_eq_false_iff_not, decide_eq_false_iff_not, Nat.mod_pow_succ]
    have hp := Nat.two_pow_pos k
    have hm : V / 2 ^ k % 2 = 0 ∨ V / 2 ^ k % 2 = 1 := by omega
    rcases hm with hm | hm
    · rw [hm]; simp
    · rw [hm]
      constructor
      · intro h; omega
      · rintro ⟨h, _⟩; exact absurd rfl h
theorem btw_low {g : Bool} {V : Nat} {e : Int} {X : Nat} (hV : V ≠ 0) (h1 : -1073741824 ≤ e) (h2 : e ≤ 1073741824) (hX : IsLow (sz V e) X) :
    btwO (some ⟨g, V, e⟩) = (X, if X = 9218868437227405312 ∨ sz V e = vX X then X else X + 1, true) := by
  obtain rfl := hX.uniq (low_is hV h1 h2)
  unfold btwO
  simp only
  rw [if_neg hV]
  unfold lowX
  by_cases ht : 1023 < rtop V e
  · rw [if_pos (show 1024 ≤ rtop V e by omega), if_pos ht, if_pos (Or.inl rfl)]
  · rw [if_neg (show ¬ 1024 ≤ rtop V e by omega), if_neg ht]
    obtain ⟨r1, r2, r3, r4, r5⟩ := rnd_low hV h1 h2 (by omega)
    have hj := jst_iff hV h1 h2 (by omega)
    by_cases hj1 : sz V e = vX (rX V e)
    · rw [hj.2 hj1, if_pos rfl, if_pos (Or.inr hj1)]
    · have : jst V e (ru V e) = false := by
        cases h : jst V e (ru V e)
        · rfl
        · exact absurd (hj.1 h) hj1
      rw [this, if_neg (by decide), if_neg (fun h => by rcases h with h | h; omega; exact hj1 h)]

/-- Bits of their parts, by Exact. -/
theorem ex_parts {L U : Nat} (h1 : U < 9007199254740992) (h2 : 0 < L → 4503599627370496 ≤ U) (h3 : L ≤ 2045) : exD (nO false U ((L : Int) - 1074)) = (L * 4503599627370496 + U, true) := by
  obtain ⟨f1, f2, f3, f4, f5⟩ := f_of (L := L) (M := U) false h1 h2 h3 (X := L * 4503599627370496 + U) (by rw [if_neg (by decide), Nat.zero_add])
  have e1 : fO (L * 4503599627370496 + U) = nO false U ((L : Int) - 1074) := by
    unfold fO fe
    rw [f3, f4, f5]
  rw [← e1, exD_back f1 f2, f3]
  by_cases h0 : U = 0
  · rw [if_pos h0]
    have : L = 0 := by
      rcases Nat.eq_zero_or_pos L with h | h
      · exact h
      · have := h2 h; omega
    rw [this, h0]
  · rw [if_neg h0]
/-- The size of what lies below, of parts. -/
theorem low_parts {V : Nat} {e : Int} (hV : V ≠ 0) (h1 : -1073741824 ≤ e) (h2 : e ≤ 1073741824) (ht : rtop V e ≤ 1023) :
    exD (nO false (rU V e (ru V e)) (ru V e)) = (rX V e, true) := by
  have hB := blen_pos hV
  obtain ⟨u, hu⟩ : ∃ u, ru V e = u := ⟨_, rfl⟩
  have hu1 : (u = rtop V e - 52 ∧ -1074 ≤ u) ∨ (u = -1074 ∧ rtop V e - 52 < -1074) := by unfold ru at hu; omega
  obtain ⟨L, hL⟩ : ∃ L : Nat, (u + 1074).toNat = L := ⟨_, rfl⟩
  have hL1 : u = (L : Int) - 1074 := by omega
  have hr : rtop V e = (blen V : Int) - 1 + e := rfl
  have hU : blen (rU V e u) ≤ 53 ∧ (0 < L → blen (rU V e u) = 53) := by
    unfold rU
    by_cases hc : u ≤ e
    · rw [if_pos hc, blen_shl hV]
      omega
    · rw [if_neg hc, Nat.div_div_eq_div_mul, ← Nat.pow_succ, show (u - e - 1).toNat.succ = (u - e).toNat by omega]
      have h9 : blen (V / 2 ^ (u - e).toNat) = blen V - (u - e).toNat := by
        generalize (u - e).toNat = k
        rcases Nat.lt_or_ge V (2 ^ k) with h | h
        · rw [Nat.div_eq_of_lt h, blen_zero]
          have := blen_le_iff.2 h
          omega
        · have hk : k < blen V := by
            rcases Nat.lt_or_ge k (blen V) with h' | h'
            · exact h'
            · exact absurd (blen_le_iff.1 h') (by omega)
          refine blen_eq ?_ ?_ (by omega)
          · refine (Nat.le_div_iff_mul_le (Nat.two_pow_pos _)).2 ?_
            rw [← Nat.pow_add, show blen V - k - 1 + k = blen V - 1 by omega]
            exact blen_le hV
          · refine (Nat.div_lt_iff_lt_mul (Nat.two_pow_pos _)).2 ?_
            rw [← Nat.pow_add, Nat.sub_add_cancel (by omega)]
            exact lt_blen V
      rw [h9]
      omega
  unfold rX
  rw [hu, hL]
  rw [hL1] at hU ⊢
  refine ex_parts (blen_le_iff.1 hU.1) (fun h => ?_) (by omega)
  have h5 := blen_le (x := rU V e ((L : Int) - 1074)) (fun h0 => by have h6 := hU.2 h; rw [h0] at h6; cases h6)
  rw [hU.2 h] at h5
  exact h5
end Go.Proofs.YtgacafdkhailmaaDoor

/- The walks of next.Up, Down, unit. -/
namespace Go.Proofs.YtgacafdkhailmaaDoor
open Go.RowKit

/-- What Up tells of a number. -/
def nupX (b : Nat) : Nat := if fm b = 0 then 1 else if fng b then b - 1 else b + 1
/-- .. and Down. -/
def ndnX (b : Nat) : Nat := flp (nupX (flp b))

theorem nup_lt {b : Nat} (hb : b < 18446744073709551616) (hf : Fnt b) : nupX b < 18446744073709551616 := by
  unfold nupX
  have h1 := fin_lt hf
  by_cases h0 : fm b = 0
  · rw [if_pos h0]; decide
  · rw [if_neg h0]
    by_cases h : 9223372036854775808 ≤ b
    · rw [show fng b = true from decide_eq_true h, if_pos rfl]; omega
    · rw [show fng b = false from decide_eq_false h, if_neg (by decide)]; omega

theorem up_no (b : Nat) (hb : b < 18446744073709551616) (w : World) (hf : ¬ Fnt b) :
    Calls Tryd.prog 8 #[.int .u64 (b : Int)] w fun e w' => e = .returned (.tuple #[.int .u64 0, .bool false]) ∧ w = w' := by
  have Hf : Hid (decide (Fnt b) = false) := decide_eq_false hf
  clear hf
  go_enter Tryd.func8, Tryd.ntmps8
  go_wp2_with fail
  refine (ffin_l false b hb w Hf).mono ?_
  rintro e w' ⟨rfl, rfl⟩
  go_wp2
  go_ret2
  exact ⟨rfl, rfl⟩
theorem up_yes (X b : Nat) (hb : b < 18446744073709551616) (w : World) (hf : Fnt b) (hX : Hid (nupX b = X)) :
    Calls Tryd.prog 8 #[.int .u64 (b : Int)] w fun e w' => e = .returned (.tuple #[.int .u64 (X : Int), .bool true]) ∧ w = w' := by
  have Hf : Hid (decide (Fnt b) = true) := decide_eq_true hf
  obtain ⟨v, hv⟩ : ∃ v, fkd b = v := ⟨_, rfl⟩
  have Hv := Lib.hid hv
  have hz := fkd_zero b
  rw [hv] at hz
  have hX' := hX.out
  have hlt := fin_lt hf
  unfold nupX at hX'
  by_cases h0 : fm b = 0
  · rw [if_pos h0] at hX'
    subst hX'
    obtain rfl := hz.2 h0
    clear hf hz h0 hX hv hlt
    go_enter Tryd.func8, Tryd.ntmps8
    go_wp2_with fail
    refine (ffin_l true b hb w Hf).mono ?_
    rintro e w' ⟨rfl, rfl⟩
    go_wp2_with fail
    refine (fkind_l 0 b hb w Hv).mono ?_
    rintro e w' ⟨rfl, rfl⟩
    go_wp2
    go_ret2
    exact ⟨rfl, rfl⟩
  · rw [if_neg h0] at hX'
    have hv0 : v ≠ 0 := fun h => h0 (hz.1 h)
    have c1 : ((v : Int) == 0) = false := beq_no (by omega)
    obtain ⟨s, hs⟩ : ∃ s, fng b = s := ⟨_, rfl⟩
    have Hs := Lib.hid hs
    rw [hs] at hX'
    cases s with
    | true =>
      rw [if_pos rfl] at hX'
      have hb1 : 1 ≤ b := by have := of_decide_eq_true hs; omega
      have e1 : (b : Int) - 1 = (X : Int) := by omega
      have hX9 : X < 18446744073709551616 := by omega
      clear hf hz h0 hX hv hlt hX' hs hv0
      go_enter Tryd.func8, Tryd.ntmps8
      go_wp2_with fail
      refine (ffin_l true b hb w Hf).mono ?_
      rintro e w' ⟨rfl, rfl⟩
      go_wp2_with fail
      refine (fkind_l v b hb w Hv).mono ?_
      rintro e w' ⟨rfl, rfl⟩
      go_wp2_with fail
      refine (fneg_l true b hb w Hs).mono ?_
      rintro e w' ⟨rfl, rfl⟩
      go_wp2
      go_ret2
      exact ⟨rfl, rfl⟩
    | false =>
      rw [if_neg (by decide)] at hX'
      have hb1 : b < 9223372036854775808 := by have := of_decide_eq_false hs; omega
      have e1 : (b : Int) + 1 = (X : Int) := by omega
      have hX9 : X < 18446744073709551616 := by omega
      clear hf hz h0 hX hv hlt hX' hs hv0
      go_enter Tryd.func8, Tryd.ntmps8
      go_wp2_with fail
      refine (ffin_l true b hb w Hf).mono ?_
      rintro e w' ⟨rfl, rfl⟩
      go_wp2_with fail
      refine (fkind_l v b hb w Hv).mono ?_
      rintro e w' ⟨rfl, rfl⟩
      go_wp2_with fail
      refine (fneg_l false b hb w Hs).mono ?_
      rintro e w' ⟨rfl, rfl⟩
      go_wp2
      go_ret2
      exact ⟨rfl, rfl⟩

theorem down_no (b : Nat) (hb : b < 18446744073709551616) (w : World) (hf : ¬ Fnt b) :
    Calls Tryd.prog 9 #[.int .u64 (b : Int)] w fun e w' => e = .returned (.tuple #[.int .u64 0, .bool false]) ∧ w = w' := by
  have h1 := xor_flp b hb
  obtain ⟨f1, f2, _, _⟩ := flp_facts hb
  have hf2 : ¬ Fnt (flp b) := fun h => hf ((size_same f2).2.2.2.1.1 h)
  generalize flp b = p at h1 f1 hf2
  have H1 := Lib.hid (up_no p f1 w hf2)
  clear f2 hf hf2
  go_enter Tryd.func9, Tryd.ntmps9
  go_wp2_with fail
  refine H1.out.mono ?_
  rintro e w' ⟨rfl, rfl⟩
  go_wp2
  go_ret2
  exact ⟨rfl, rfl⟩
theorem down_yes (X b : Nat) (hb : b < 18446744073709551616) (w : World) (hf : Fnt b) (hX : Hid (ndnX b = X)) :
    Calls Tryd.prog 9 #[.int .u64 (b : Int)] w fun e w' => e = .returned (.tuple #[.int .u64 (X : Int), .bool true]) ∧ w = w' := by
  have h1 := xor_flp b hb
  obtain ⟨f1, f2, _, _⟩ := flp_facts hb
  have hf2 : Fnt (flp b) := (size_same f2).2.2.2.1.2 hf
  have hX' := hX.out
  unfold ndnX at hX'
  generalize flp b = p at h1 f1 hf2 hX'
  have f3 := nup_lt f1 hf2
  have h2 := xor_flp (nupX p) f3
  rw [hX'] at h2
  have H1 := Lib.hid (up_yes (nupX p) p f1 w hf2 rfl)
  generalize nupX p = q at h2 H1
  clear f2 hf hf2 hX hX' f3
  go_enter Tryd.func9, Tryd.ntmps9
  go_wp2_with fail
  refine H1.out.mono ?_
  rintro e w' ⟨rfl, rfl⟩
  go_wp2
  go_ret2
  exact ⟨rfl, rfl⟩

/-- What unit tells. -/
def duni (V : Nat) (e : Int) : Int := if V = 0 then -1074 else max (topD V e - 52) (-1074)
theorem unit_l (u : Int) (g : Bool) (A : Option Addr) (n c : Nat) (xs : List Nat) (e0 : Int) (w : World) (hA : Lim w A n c xs) (hn : n ≤ 4294967296) (hu : Hid (duni (val xs) e0 = u)) :
    Calls Tryd.prog 33 #[.agg #[.bool g, .slice A n c, .int .i64 e0]] w fun e w' => e = .returned (.int .i64 u) ∧ Below w.heap.size w w' := by
  have a1 := below1 w (.cells #[.bool g, .slice A n c, .int .i64 e0] 28)
  have HS := Lib.hid a1
  have hu' := hu.out
  unfold duni at hu'
  by_cases h0 : val xs = 0
  · rw [if_pos h0] at hu'
    subst hu'
    have H1 := Lib.hid (top_zero g A n c xs e0 _ (hA.below a1) hn h0)
    clear a1 h0 hA hu
    go_enter Tryd.func33, Tryd.ntmps33
    go_wp2_with fail
    refine H1.out.mono ?_
    rintro e w1 ⟨rfl, hb⟩
    have Hfin := Lib.hid (HS.out.trans (hb.mono HS.out.size))
    clear hb H1 HS
    go_wp2
    go_ret
    exact ⟨rfl, Hfin.out⟩
  · rw [if_neg h0] at hu'
    obtain ⟨T, hT⟩ : ∃ T, topD (val xs) e0 = T := ⟨_, rfl⟩
    have H1 := Lib.hid (top_l T g A n c xs e0 _ (hA.below a1) hn h0 hT)
    have hbl := hA.blen_le
    have hh := held_bd e0
    have hB := blen_pos h0
    have hT' := hT
    unfold topD at hT'
    have b1 : -2147483648 ≤ T := by omega
    have b2 : T ≤ 300000000000 := by omega
    rw [hT] at hu'
    have HU := Lib.hid hu'
    clear a1 h0 hA hu hu' hT hbl hh hB hT'
    go_enter Tryd.func33, Tryd.ntmps33
    go_wp2_with fail
    refine H1.out.mono ?_
    rintro e w1 ⟨rfl, hb⟩
    have Hfin := Lib.hid (HS.out.trans (hb.mono HS.out.size))
    clear hb H1 HS
    go_wp2
    go_ret
    exact ⟨ret_int HU.out, Hfin.out⟩
end Go.Proofs.YtgacafdkhailmaaDoor

/- The walk of next.Middle. -/
namespace Go.Proofs.YtgacafdkhailmaaDoor
open Go.RowKit

/-- While it is walked: the result's block, the number in its block. -/
def HoldM (w : World) (p : Nat) (g : Bool) (A : Option Addr) (n c : Nat) (xs : List Nat) (e0 : Int) (u : World) : Prop :=
  Bd u w.heap.size 28 false none 0 0 0 ∧ Bd u p 28 g A n c e0 ∧ Lim u A n c xs ∧ Tab u ∧ w.heap.size < p ∧ Below w.heap.size w u
section
variable {w : World} {p : Nat} {g : Bool} {A : Option Addr} {n c : Nat} {xs : List Nat} {e0 : Int} {u u' : World}
theorem HoldM.below (h : HoldM w p g A n c xs e0 u) (hb : Below u.heap.size u u') : HoldM w p g A n c xs e0 u' :=
  ⟨h.1.below hb, h.2.1.below hb, h.2.2.1.below hb, h.2.2.2.1.below hb, h.2.2.2.2.1, h.2.2.2.2.2.trans (hb.mono h.2.2.2.2.2.size)⟩
theorem HoldM.cells (h : HoldM w p g A n c xs e0 u) : u.cell? ⟨p, 0, none⟩ = some (.bool g) ∧ u.cell? ⟨p, 1, none⟩ = some (.slice A n c) ∧ u.cell? ⟨p, 2, none⟩ = some (.int .i64 e0) := ⟨h.2.1.c0, h.2.1.c1, h.2.1.c2⟩
theorem HoldM.tab (h : HoldM w p g A n c xs e0 u) : Tab u := h.2.2.2.1
theorem HoldM.lt (h : HoldM w p g A n c xs e0 u) : p < u.heap.size := h.2.1.lt
theorem HoldM.put (h : HoldM w p g A n c xs e0 u) {q : Nat} (hq : p < q) {t : Nat} {g0 : Bool} {A0 : Option Addr} {n0 c0 : Nat} {e1 : Int} (hB : Bd u q t g0 A0 n0 c0 e1) (g' : Bool) (A' : Option Addr) (n' c' : Nat) (e' : Int) : HoldM w p g A n c xs e0 (World.put u q g' A' n' c' e') :=
  ⟨h.1.other (by have := h.2.2.2.2.1; omega) _ _ _ _ _, h.2.1.other (by omega) _ _ _ _ _, hB.lim h.2.2.1 _ _ _ _ _, hB.tab h.2.2.2.1 _ _ _ _ _, h.2.2.2.2.1, below_put h.2.2.2.2.2 (by have := h.2.2.2.2.1; omega) _ _ _ _ _⟩
end
/-- .. and a half in a block q. -/
def RelM (w : World) (p : Nat) (g : Bool) (A : Option Addr) (n c : Nat) (xs : List Nat) (e0 : Int) (q : Nat) (k : Bool) (B : Option Addr) (m d : Nat) (ys : List Nat) (e1 : Int) (V : Nat) (u : World) : Prop :=
  HoldM w p g A n c xs e0 u ∧ Bd u q 28 k B m d e1 ∧ Lim u B m d ys ∧ val ys = V ∧ m ≤ 1

theorem midD_len {zs : List Nat} {b : Nat} {w : World} {A : Option Addr} {m c : Nat} (h : Lim w A m c zs) (hb : Bare zs) (hv : val zs = 2 * fm b + 1) : m ≤ 1 := by
  have h1 := (f_parts b).2.1
  have h2 : blen (val zs) ≤ 64 := blen_le_iff.2 (by rw [hv]; show 2 * fm b + 1 < 18446744073709551616; omega)
  rw [← h.len]
  exact len_of_blen h.2.2.1 hb h2 (by decide)

theorem mid_no (b : Nat) (hb : b < 18446744073709551616) (w : World) (hf : ¬ Fnt b) :
    Calls Tryd.prog 10 #[.int .u64 (b : Int)] w fun e w' => e = .returned (.tuple #[.agg #[.bool false, .slice none 0 0, .int .i64 0], .bool false]) ∧ Below w.heap.size w w' := by
  have a1 := below1 w (.cells #[.bool false, .slice none 0 0, .int .i64 0] 28)
  have HS := Lib.hid a1
  have Hb := Lib.hid (Bd.new w 28 false none 0 0 0)
  have H1 := Lib.hid (fdyad_no b hb (w.alloc (.cells #[.bool false, .slice none 0 0, .int .i64 0] 28)) hf)
  clear a1 hf
  go_enter Tryd.func10, Tryd.ntmps10
  go_wp2_with fail
  refine H1.out.mono ?_
  rintro e w1 ⟨rfl, hb1⟩
  have k1 := (Hb.out.below hb1).alloc (.cells #[.bool false, .slice none 0 0, .int .i64 0] 28)
  have x0 := k1.c0
  have x1 := k1.c1
  have x2 := k1.c2
  have xf := k1.fz
  have s1 := HS.out.trans (hb1.mono HS.out.size)
  have Hfin := Lib.hid (below_put (s1.alloc s1.size (.cells #[.bool false, .slice none 0 0, .int .i64 0] 28)) (Nat.le_refl _) false none 0 0 0)
  clear k1 s1 hb1 HS Hb H1
  go_wp2
  exact bodyPost_ret (v := .tuple #[.agg #[.bool false, .slice none 0 0, .int .i64 0], .bool false]) (by simp [results, Tryd.results10, go_sem, x0, x1, x2]) rfl ⟨rfl, Hfin.out⟩

set_option maxHeartbeats 4000000 in
theorem mid_yes (b : Nat) (hb : b < 18446744073709551616) (w : World) (hT : Tab w) (hf : Fnt b) :
    Calls Tryd.prog 10 #[.int .u64 (b : Int)] w (FTold w (midD b) 1) := by
  have a1 := below1 w (.cells #[.bool false, .slice none 0 0, .int .i64 0] 28)
  have HS := Lib.hid a1
  have Hb := Lib.hid (Bd.new w 28 false none 0 0 0)
  have H1 := fdyad_yes b hb (w.alloc (.cells #[.bool false, .slice none 0 0, .int .i64 0] 28)) (hT.below a1) hf
  have HT := Lib.hid (hT.below a1)
  have hadd := mid_add hf
  have hself := mk_self (mk_fin hf)
  have hbd := fe_bd hf
  have hlen : ∀ (zs : List Nat) (u : World) (A : Option Addr) (m c : Nat), Lim u A m c zs → Bare zs → val zs = (midD b).V → m ≤ 1 := fun _ _ _ _ _ h1 h2 h3 => midD_len h1 h2 h3
  have hhalf := half_mk (fng b) hf
  have hhs := mk_self hhalf
  obtain ⟨s, hs⟩ : ∃ s, fng b = s := ⟨_, rfl⟩
  obtain ⟨u1, hu1⟩ : ∃ u, fe b = u := ⟨_, rfl⟩
  have hunit : duni (fO b).V (fO b).e = u1 := by
    rw [← hu1]
    by_cases h0 : fm b = 0
    · rw [fO_zero h0, unit_zero h0]; rfl
    · obtain ⟨_, k2, _⟩ := fO_pos hf h0
      have hV0 : (fO b).V ≠ 0 := by rw [k2]; exact fun h => h0 (odd_part_zero.1 h)
      rw [duni, if_neg hV0, topD]
      exact unit_fin hf h0
  obtain ⟨⟨mg, mV, mE⟩, hmid⟩ : ∃ d, midD b = d := ⟨_, rfl⟩
  rw [hmid] at hadd hlen ⊢
  rw [hs, hu1] at hadd hhalf hhs
  rw [hu1] at hbd
  obtain ⟨⟨dg, dV, dE⟩, hd⟩ : ∃ d, fO b = d := ⟨_, rfl⟩
  rw [hd] at H1 hadd hself hunit
  simp only at hself hunit hhs hlen
  have H1 := Lib.hid H1
  have Hs := Lib.hid hs
  have Hadd : Hid (addO (mk dg dV dE) (mk s 1 (u1 - 1)) = some ⟨mg, mV, mE⟩) := by
    show _ = _
    rw [hself, hhs]
    exact hadd
  have Hhalf := Lib.hid hhalf
  have Hunit := Lib.hid hunit
  have HLen := Lib.hid hlen
  clear a1 hT hf hadd hself hhalf hhs hs hu1 hunit hmid hd hlen
  go_enter Tryd.func10, Tryd.ntmps10
  go_wp2_with fail
  refine H1.out.mono ?_
  rintro e w1 ⟨A1, m1, c1, zs, rfl, hm1, hl1, hb1, hv1, hB1⟩
  have a2 := below1 w1 (.cells #[.bool dg, .slice A1 m1 c1, .int .i64 dE] 28)
  have hsz : w.heap.size < w1.heap.size := (Hb.out.below hB1).lt
  have s1 := HS.out.trans (hB1.mono HS.out.size)
  have h0 : HoldM w w1.heap.size dg A1 m1 c1 zs dE (w1.alloc (.cells #[.bool dg, .slice A1 m1 c1, .int .i64 dE] 28)) :=
    ⟨(Hb.out.below hB1).below a2, Bd.new w1 _ _ _ _ _ _, hl1.below a2, (HT.out.below hB1).below a2, hsz, s1.trans (a2.mono s1.size)⟩
  have cur := Lib.hid (h0.below (below_drew _))
  have F1 := Lib.hid ((h0.below (below1 _ (.cells #[.bool false, .slice none 0 0, .int .i64 0] 28))).below (below_drew _))
  have z1 := Bd.new (w1.alloc (.cells #[.bool dg, .slice A1 m1 c1, .int .i64 dE] 28)) 28 false none 0 0 0
  rw [World.size_alloc] at z1
  have Z1 := Lib.hid (And.intro z1.drew (Nat.lt_succ_self w1.heap.size))
  have HN : Hid (∀ u, Calls Tryd.prog 30 #[.int .u64 (b : Int)] u fun e w' => e = .returned (.bool s) ∧ u = w') := fun u => fneg_l s b hb u Hs
  have HO : Hid (∀ u, Calls Tryd.prog 32 #[.int .u64 1] u (Tells u 1 1)) := fun u => of_any 1 (by decide) u
  have HU : Hid (∀ u, HoldM w w1.heap.size dg A1 m1 c1 zs dE u → Calls Tryd.prog 33 #[.agg #[.bool dg, .slice A1 m1 c1, .int .i64 dE]] u fun e w' => e = .returned (.int .i64 u1) ∧ Below u.heap.size u w') := fun u hu =>
    unit_l u1 dg A1 m1 c1 zs dE u hu.2.2.1 (by omega) (by show duni _ _ = _; rw [hv1]; exact Hunit.out)
  have HM : Hid (∀ u A2 m2 c2 ys, Lim u A2 m2 c2 ys → val ys = 1 → m2 ≤ 1 → Tab u → Calls Tryd.prog 31 #[.bool s, .slice A2 m2 c2, .int .i64 (u1 - 1)] u fun e w' => ∃ (A3 : Option Addr) (m3 c3 : Nat) (ts : List Nat), e = .returned (.tuple #[.agg #[.bool s, .slice A3 m3 c3, .int .i64 (u1 - 1)], .int .i64 0]) ∧ m3 ≤ 1 ∧ Lim w' A3 m3 c3 ts ∧ val ts = 1 ∧ Below u.heap.size u w') := fun u A2 m2 c2 ys q1 q2 q3 q4 => by
    have h := make_any s A2 m2 c2 ys (u1 - 1) u q1 (by omega) q4
    rw [q2, Hhalf.out] at h
    refine h.mono ?_
    rintro e w' ⟨g3, A3, m3, c3, ts, E3, r3, he, hm3, k1, k2, k3, k4⟩
    obtain ⟨i1, i2, i3, i4⟩ := k3
    simp only at i2 i3 i4
    rw [i1, i2, i4] at he
    exact ⟨A3, m3, c3, ts, he, by omega, k1, i3, k4⟩
  have hw1 : IntKind.i64.wrap (u1 - 1) = u1 - 1 := by rw [IntKind.wrap_i64]; omega
  have HV1 := Lib.hid hv1
  clear a2 h0 z1 hl1 hb1 hv1 hB1 s1 HS Hb HT H1 Hs Hunit Hhalf
  go_wp2_with fail
  go_cut [6, 7] from 10 (fun s6 s7 wx => ∃ (q m5 c5 : Nat) (A5 : Option Addr) (es : List Nat), s6 = .pointer (some ⟨q, 0, none⟩) ∧ s7 = .int .i64 0 ∧ Hid (RelM w w1.heap.size dg A1 m1 c1 zs dE q s A5 m5 c5 es (u1 - 1) 1 wx))
  case first =>
    go_region_held3 (fun w' => w'.cell? ⟨w1.heap.size, 0, none⟩ = some (.bool dg) ∧ w'.cell? ⟨w1.heap.size, 1, none⟩ = some (.slice A1 m1 c1) ∧ w'.cell? ⟨w1.heap.size, 2, none⟩ = some (.int .i64 dE))
      (first | (with_reducible exact cur.out.cells) | (with_reducible exact F1.out.cells) | (with_reducible exact (cur.out.below (below1 _ _)).cells) | (with_reducible exact K9.out))
      (first
        | (go_at_call 30; (with_reducible refine (HN.out _).mono ?_); rintro e wn ⟨rfl, rfl⟩)
        | (go_at_call 32; (with_reducible refine (HO.out _).mono ?_); rintro e w2 ⟨A2, m2, c2, ys, rfl, hm2, hl2, hb2, hv2, hB2⟩; (first | (with_reducible (replace zz := Lib.hid (And.intro (zz.out.1.below hB2) zz.out.2))) | (with_reducible (have zz := Lib.hid (And.intro (Z1.out.1.below hB2) Z1.out.2))) | (with_reducible (have zz := Lib.hid (And.intro ((Bd.new _ 28 false none 0 0 0).below hB2) cur.out.lt))) | skip); (first | (with_reducible (replace cur := Lib.hid (cur.out.below hB2))) | (with_reducible (replace cur := Lib.hid (F1.out.below hB2))) | (with_reducible (replace cur := Lib.hid ((cur.out.below (below1 _ (.cells #[.bool false, .slice none 0 0, .int .i64 0] 28))).below hB2)))); have L2 := Lib.hid hl2; have V2 := Lib.hid hv2; clear hl2 hb2 hB2 hv2)
        | (go_at_call 33; (with_reducible refine (HU.out _ (by first | (with_reducible exact cur.out) | (with_reducible exact F1.out) | (with_reducible exact cur.out.below (below1 _ _)))).mono ?_); rintro e w3 ⟨rfl, hB3⟩; (first | (with_reducible (replace zz := Lib.hid (And.intro (zz.out.1.below hB3) zz.out.2))) | (with_reducible (have zz := Lib.hid (And.intro (Z1.out.1.below hB3) Z1.out.2))) | (with_reducible (have zz := Lib.hid (And.intro ((Bd.new _ 28 false none 0 0 0).below hB3) cur.out.lt))) | skip); (first | (with_reducible (replace cur := Lib.hid (cur.out.below hB3))) | (with_reducible (replace cur := Lib.hid (F1.out.below hB3))) | (with_reducible (replace cur := Lib.hid ((cur.out.below (below1 _ (.cells #[.bool false, .slice none 0 0, .int .i64 0] 28))).below hB3)))); (first | (with_reducible (replace L2 := Lib.hid (L2.out.below hB3))) | (with_reducible (replace L2 := Lib.hid ((L2.out.alloc (.cells #[.bool false, .slice none 0 0, .int .i64 0] 28)).below hB3))) | skip); clear hB3)
        | (go_at_call 31; (with_reducible refine (HM.out _ A2 m2 c2 ys (by first | (with_reducible exact L2.out) | (with_reducible exact L2.out.alloc _)) V2.out hm2 (by first | (with_reducible exact cur.out.tab) | (with_reducible exact (cur.out.below (below1 _ _)).tab))).mono ?_); rintro e w4 ⟨A4, m4, c4, ts, rfl, hm4, hl4, hv4, hB4⟩; (first | (with_reducible (replace zz := Lib.hid (And.intro (zz.out.1.below hB4) zz.out.2))) | (with_reducible (have zz := Lib.hid (And.intro (Z1.out.1.below hB4) Z1.out.2))) | (with_reducible (have zz := Lib.hid (And.intro ((Bd.new _ 28 false none 0 0 0).below hB4) cur.out.lt))) | skip); (first | (with_reducible (replace cur := Lib.hid (cur.out.below hB4))) | (with_reducible (replace cur := Lib.hid (F1.out.below hB4))) | (with_reducible (replace cur := Lib.hid ((cur.out.below (below1 _ (.cells #[.bool false, .slice none 0 0, .int .i64 0] 28))).below hB4)))); have L4 := Lib.hid hl4; have V4 := Lib.hid hv4; clear hl4 hB4 hv4; (first | (have x0 := zz.out.1.c0; have x1 := zz.out.1.c1; have x2 := zz.out.1.c2; have xf := zz.out.1.fz; have K8 := cur.out.put zz.out.2 zz.out.1 s A4 m4 c4 (u1 - 1); have K9 := Lib.hid K8.cells; have Fin : Hid (RelM w w1.heap.size dg A1 m1 c1 zs dE _ s A4 m4 c4 ts (u1 - 1) 1 _) := ⟨K8, zz.out.1.put _ _ _ _ _, zz.out.1.lim L4.out _ _ _ _ _, V4.out, hm4⟩; clear K8) | (have Fin : Hid (RelM w w1.heap.size dg A1 m1 c1 zs dE w4.heap.size s A4 m4 c4 ts (u1 - 1) 1 (w4.alloc (.cells #[.bool s, .slice A4 m4 c4, .int .i64 (u1 - 1)] 28))) := ⟨cur.out.below (below1 _ _), Bd.new w4 _ _ _ _ _ _, L4.out.alloc _, V4.out, hm4⟩; have K9 := Lib.hid (cur.out.below (below1 _ (.cells #[.bool s, .slice A4 m4 c4, .int .i64 (u1 - 1)] 28))).cells))))
    all_goals (go_wp2_with fail)
    all_goals go_meet
    all_goals (refine ⟨_, m4, c4, A4, ts, rfl, rfl, ?_⟩)
    all_goals (with_reducible exact Fin)
  case rest =>
    obtain ⟨wA, rfl⟩ : ∃ wA, wA = wc := ⟨_, rfl⟩
    obtain ⟨q, m5, c5, A5, es, rfl, rfl, HR⟩ := hcut
    obtain ⟨h1, h2, h3, h4, h5⟩ := HR.out
    have HA := Lib.hid (dadd_any (some ⟨mg, mV, mE⟩) dg A1 m1 c1 zs dE s A5 m5 c5 es (u1 - 1) wA h1.2.2.1 h3 (by omega) (by omega) h1.tab (by show addO _ _ = _; rw [HV1.out, h4]; exact Hadd.out))
    have y0 := h1.2.1.c0
    have y1 := h1.2.1.c1
    have y2 := h1.2.1.c2
    have v0 := h2.c0
    have v1 := h2.c1
    have v2 := h2.c2
    clear h1 h2 h3 h4 cur F1 Z1 HN HO HU HM HV1 Hadd
    go_wp2_with fail
    refine HA.out.mono ?_
    rintro e w5 ⟨g6, A6, m6, c6, ts, E6, r6, rfl, hm6, hl6, hb6, his, hB6⟩
    obtain ⟨rfl, rfl, hz6, rfl⟩ := his
    simp only at hz6
    have hr := HR.out.1.below hB6
    have hm7 := HLen.out ts w5 A6 m6 c6 hl6 hb6 hz6
    have z0 := fun o => (hr.1.alloc o).c0
    have z1 := fun o => (hr.1.alloc o).c1
    have z2 := fun o => (hr.1.alloc o).c2
    have zf := fun o => (hr.1.alloc o).fz
    have n1 := Bd.new w5 28 g6 A6 m6 c6 E6
    have t0 := n1.c0
    have t1 := n1.c1
    have t2 := n1.c2
    have Hfin : Hid (FTold w ⟨g6, mV, E6⟩ 1 (.returned (.tuple #[.agg #[.bool g6, .slice A6 m6 c6, .int .i64 E6], .bool true])) (World.put (w5.alloc (.cells #[.bool g6, .slice A6 m6 c6, .int .i64 E6] 28)) w.heap.size g6 A6 m6 c6 E6)) :=
      ⟨A6, m6, c6, ts, rfl, hm7, (hr.1.alloc _).lim (hl6.alloc _) _ _ _ _ _, hb6, hz6, below_put (hr.2.2.2.2.2.alloc hr.2.2.2.2.2.size _) (Nat.le_refl _) _ _ _ _ _⟩
    clear hr n1 hl6 hb6 hz6 hB6 HR HA HLen y0 y1 y2 v0 v1 v2
    go_wp2
    exact bodyPost_ret (v := .tuple #[.agg #[.bool g6, .slice A6 m6 c6, .int .i64 E6], .bool true]) (by simp [results, Tryd.results10, go_sem, z0, z1, z2]) rfl Hfin.out
end Go.Proofs.YtgacafdkhailmaaDoor

/- The walk of next.Beside. -/
namespace Go.Proofs.YtgacafdkhailmaaDoor
open Go.RowKit

/-- Two dyads that are told with a true. -/
def BTold (w : World) (a b : Dy) (e : Ending) (w' : World) : Prop :=
  ∃ (A : Option Addr) (m c : Nat) (zs : List Nat) (B : Option Addr) (n d : Nat) (us : List Nat), e = .returned (.tuple #[.agg #[.bool a.neg, .slice A m c, .int .i64 a.e], .agg #[.bool b.neg, .slice B n d, .int .i64 b.e], .bool true]) ∧ m ≤ 1 ∧ n ≤ 1 ∧ Lim w' A m c zs ∧ Lim w' B n d us ∧ Bare zs ∧ Bare us ∧ val zs = a.V ∧ val us = b.V ∧ Below w.heap.size w w'

/-- Both results' blocks. -/
def HoldB2 (w : World) (g : Bool) (A : Option Addr) (n c : Nat) (e1 : Int) (k : Bool) (B : Option Addr) (m d : Nat) (e2 : Int) (u : World) : Prop :=
  Bd u w.heap.size 28 g A n c e1 ∧ Bd u (w.heap.size + 1) 28 k B m d e2 ∧ Below w.heap.size w u
section
variable {w : World} {g : Bool} {A : Option Addr} {n c : Nat} {e1 : Int} {k : Bool} {B : Option Addr} {m d : Nat} {e2 : Int} {u u' : World}
theorem HoldB2.below (h : HoldB2 w g A n c e1 k B m d e2 u) (hb : Below u.heap.size u u') : HoldB2 w g A n c e1 k B m d e2 u' := ⟨h.1.below hb, h.2.1.below hb, h.2.2.trans (hb.mono h.2.2.size)⟩
theorem HoldB2.put1 (h : HoldB2 w g A n c e1 k B m d e2 u) (g' : Bool) (A' : Option Addr) (n' c' : Nat) (e' : Int) : HoldB2 w g' A' n' c' e' k B m d e2 (World.put u w.heap.size g' A' n' c' e') :=
  ⟨h.1.put _ _ _ _ _, h.2.1.other (by omega) _ _ _ _ _, below_put h.2.2 (Nat.le_refl _) _ _ _ _ _⟩
theorem HoldB2.put2 (h : HoldB2 w g A n c e1 k B m d e2 u) (g' : Bool) (A' : Option Addr) (n' c' : Nat) (e' : Int) : HoldB2 w g A n c e1 g' A' n' c' e' (World.put u (w.heap.size + 1) g' A' n' c' e') :=
  ⟨h.1.other (by omega) _ _ _ _ _, h.2.1.put _ _ _ _ _, below_put h.2.2 (Nat.le_succ _) _ _ _ _ _⟩
theorem HoldB2.start (w : World) : HoldB2 w false none 0 0 0 false none 0 0 0 ((w.alloc (.cells #[.bool false, .slice none 0 0, .int .i64 0] 28)).alloc (.cells #[.bool false, .slice none 0 0, .int .i64 0] 28)) := by
  have b2 := Bd.new (w.alloc (.cells #[.bool false, .slice none 0 0, .int .i64 0] 28)) 28 false none 0 0 0
  rw [World.size_alloc] at b2
  exact ⟨(Bd.new w 28 false none 0 0 0).alloc _, b2, (below1 _ _).alloc (by simp) _⟩
end

theorem beside_no (b : Nat) (hb : b < 18446744073709551616) (w : World) (hf : fm b = 0 ∨ ¬ Fnt b) :
    Calls Tryd.prog 11 #[.int .u64 (b : Int)] w fun e w' => e = .returned (.tuple #[.agg #[.bool false, .slice none 0 0, .int .i64 0], .agg #[.bool false, .slice none 0 0, .int .i64 0], .bool false]) ∧ Below w.heap.size w w' := by
  have h0 := HoldB2.start w
  have Hfin := Lib.hid h0.2.2
  have x0 := h0.1.c0
  have x1 := h0.1.c1
  have x2 := h0.1.c2
  have xf := h0.1.fz
  have y0 := h0.2.1.c0
  have y1 := h0.2.1.c1
  have y2 := h0.2.1.c2
  have yf := h0.2.1.fz
  clear h0
  by_cases hF : Fnt b
  · have h0 : fm b = 0 := by rcases hf with h | h; exact h; exact absurd hF h
    have Hf : Hid (decide (Fnt b) = true) := decide_eq_true hF
    have Hv : Hid (fkd b = 0) := (fkd_zero b).2 h0
    clear hf hF h0
    go_enter Tryd.func11, Tryd.ntmps11
    go_wp2_with fail
    refine (ffin_l true b hb _ Hf).mono ?_
    rintro e w' ⟨rfl, rfl⟩
    go_wp2_with fail
    refine (fkind_l 0 b hb _ Hv).mono ?_
    rintro e w' ⟨rfl, rfl⟩
    go_wp2
    exact bodyPost_ret (v := .tuple #[.agg #[.bool false, .slice none 0 0, .int .i64 0], .agg #[.bool false, .slice none 0 0, .int .i64 0], .bool false]) (by simp [results, Tryd.results11, go_sem, x0, x1, x2, y0, y1, y2]) rfl ⟨rfl, Hfin.out⟩
  · have Hf : Hid (decide (Fnt b) = false) := decide_eq_false hF
    clear hf hF
    go_enter Tryd.func11, Tryd.ntmps11
    go_wp2_with fail
    refine (ffin_l false b hb _ Hf).mono ?_
    rintro e w' ⟨rfl, rfl⟩
    go_wp2
    exact bodyPost_ret (v := .tuple #[.agg #[.bool false, .slice none 0 0, .int .i64 0], .agg #[.bool false, .slice none 0 0, .int .i64 0], .bool false]) (by simp [results, Tryd.results11, go_sem, x0, x1, x2, y0, y1, y2]) rfl ⟨rfl, Hfin.out⟩

set_option maxHeartbeats 2000000 in
theorem beside_yes (x b : Nat) (hb : b < 18446744073709551616) (w : World) (hT : Tab w) (hf : Fnt b) (h0 : fm b ≠ 0) (hx : b % 9223372036854775808 = x) :
    Calls Tryd.prog 11 #[.int .u64 (b : Int)] w (BTold w (midD (x - 1)) (midD x)) := by
  have Hf : Hid (decide (Fnt b) = true) := decide_eq_true hf
  obtain ⟨v, hv⟩ : ∃ v, fkd b = v := ⟨_, rfl⟩
  have Hv := Lib.hid hv
  have hz := fkd_zero b
  rw [hv] at hz
  have hv0 : v ≠ 0 := fun h => h0 (hz.1 h)
  have c1 : ((v : Int) == 0) = false := beq_no (by omega)
  have hl := fin_lt hf
  have hx0 : x ≠ 0 := fun h => h0 ((fm_zero_iff b).2 (by rw [hx]; exact h))
  have ho := nsign_off b hb
  rw [hx] at ho hl
  obtain ⟨y, hy⟩ : ∃ y, x - 1 = y := ⟨_, rfl⟩
  have ey : (x : Int) - 1 = (y : Int) := by omega
  have hf1 : Fnt y := fin_of_lt (by omega)
  have hf2 : Fnt x := fin_of_lt (by omega)
  rw [hy]
  have hyb : y < 18446744073709551616 := by omega
  have hxb : x < 18446744073709551616 := by omega
  have H0 := Lib.hid (HoldB2.start w)
  have HM1 : Hid (∀ u, Tab u → Calls Tryd.prog 10 #[.int .u64 (y : Int)] u (FTold u (midD y) 1)) := fun u hu => mid_yes y hyb u hu hf1
  have HM2 : Hid (∀ u, Tab u → Calls Tryd.prog 10 #[.int .u64 (x : Int)] u (FTold u (midD x) 1)) := fun u hu => mid_yes x hxb u hu hf2
  generalize midD y = dy at HM1 ⊢
  generalize midD x = dx at HM2 ⊢
  obtain ⟨yg, yV, yE⟩ := dy
  obtain ⟨xg, xV, xE⟩ := dx
  have HT := Lib.hid (hT.below H0.out.2.2)
  clear hz hv hf h0 hx hl hx0 hy hf1 hf2 hT hv0
  go_enter Tryd.func11, Tryd.ntmps11
  go_wp2_with fail
  refine (ffin_l true b hb _ Hf).mono ?_
  rintro e w' ⟨rfl, rfl⟩
  go_wp2_with fail
  refine (fkind_l v b hb _ Hv).mono ?_
  rintro e w' ⟨rfl, rfl⟩
  go_wp2_with fail
  refine (HM1.out _ HT.out).mono ?_
  rintro e w1 ⟨A1, m1, c1', zs, rfl, hm1, hl1, hb1, hv1, hB1⟩
  have h1 := H0.out.below hB1
  have x0 := h1.1.c0
  have x1 := h1.1.c1
  have x2 := h1.1.c2
  have xf := h1.1.fz
  have H2 := Lib.hid (h1.put1 yg A1 m1 c1' yE)
  have T2 := Lib.hid (h1.1.tab (HT.out.below hB1) yg A1 m1 c1' yE)
  have L2 := Lib.hid (h1.1.lim hl1 yg A1 m1 c1' yE)
  have B2 := Lib.hid (And.intro hb1 hv1)
  clear h1 hl1 hb1 hv1 hB1 H0 HT HM1
  go_wp2_with fail
  refine (HM2.out _ T2.out).mono ?_
  rintro e w2 ⟨A3, m3, c3, us, rfl, hm3, hl3, hb3, hv3, hB3⟩
  have h3 := H2.out.below hB3
  have l2 := L2.out.below hB3
  have y0 := h3.2.1.c0
  have y1 := h3.2.1.c1
  have y2 := h3.2.1.c2
  have yf := h3.2.1.fz
  have z0 := h3.1.c0
  have z1 := h3.1.c1
  have z2 := h3.1.c2
  have zf := h3.1.fz
  have h4 := h3.put2 xg A3 m3 c3 xE
  have l4 := h3.2.1.lim l2 xg A3 m3 c3 xE
  have l5 := h3.2.1.lim hl3 xg A3 m3 c3 xE
  have q0 := h4.1.c0
  have q1 := h4.1.c1
  have q2 := h4.1.c2
  have qf := h4.1.fz
  have r0 := h4.2.1.c0
  have r1 := h4.2.1.c1
  have r2 := h4.2.1.c2
  have rf := h4.2.1.fz
  have h5 := h4.put1 yg A1 m1 c1' yE
  have l6 := h4.1.lim l4 yg A1 m1 c1' yE
  have l7 := h4.1.lim l5 yg A1 m1 c1' yE
  have h6 := h5.put2 xg A3 m3 c3 xE
  have K0 := Lib.hid (h4.1.drew.six h4.2.1.drew)
  have K1 := Lib.hid (h5.1.drew.six h5.2.1.drew)
  have K2 := Lib.hid (h6.1.drew.six h6.2.1.drew)
  have Hfin : Hid (BTold w ⟨yg, yV, yE⟩ ⟨xg, xV, xE⟩ (.returned (.tuple #[.agg #[.bool yg, .slice A1 m1 c1', .int .i64 yE], .agg #[.bool xg, .slice A3 m3 c3, .int .i64 xE], .bool true])) (World.put (World.put (World.put w2 (w.heap.size + 1) xg A3 m3 c3 xE) w.heap.size yg A1 m1 c1' yE) (w.heap.size + 1) xg A3 m3 c3 xE).drew) :=
    ⟨A1, m1, c1', zs, A3, m3, c3, us, rfl, hm1, hm3, (h5.2.1.lim l6 _ _ _ _ _).drew, (h5.2.1.lim l7 _ _ _ _ _).drew, B2.out.1, hb3, B2.out.2, hv3, h6.2.2.drew⟩
  clear h3 h4 h5 h6 l2 l4 l5 l6 l7 hl3 hb3 hv3 hB3 H2 T2 L2 B2 HM2 x0 x1 x2 xf
  go_wp2_with fail
  go_region_held3 (fun w' => w'.cell? ⟨w.heap.size, 0, none⟩ = some (.bool yg) ∧ w'.cell? ⟨w.heap.size, 1, none⟩ = some (.slice A1 m1 c1') ∧ w'.cell? ⟨w.heap.size, 2, none⟩ = some (.int .i64 yE) ∧ w'.cell? ⟨w.heap.size + 1, 0, none⟩ = some (.bool xg) ∧ w'.cell? ⟨w.heap.size + 1, 1, none⟩ = some (.slice A3 m3 c3) ∧ w'.cell? ⟨w.heap.size + 1, 2, none⟩ = some (.int .i64 xE))
    (first | with_reducible exact K0.out | with_reducible exact K1.out | with_reducible exact K2.out) (fail)
  go_wp2_with fail
  exact bodyPost_ret (v := .tuple #[.agg #[.bool yg, .slice A1 m1 c1', .int .i64 yE], .agg #[.bool xg, .slice A3 m3 c3, .int .i64 xE], .bool true]) (by simp [results, Tryd.results11, go_sem, q0, q1, q2, r0, r1, r2]) rfl Hfin.out
end Go.Proofs.YtgacafdkhailmaaDoor

/- The walk of next.Break. -/
namespace Go.Proofs.YtgacafdkhailmaaDoor
open Go.RowKit

/-- A dyad in its box b, and its list. -/
def HoldD (w : World) (b : Nat) (g : Bool) (A : Option Addr) (n c : Nat) (xs : List Nat) (e0 : Int) (u : World) : Prop :=
  Bd u b 28 g A n c e0 ∧ Lim u A n c xs ∧ Tab u ∧ Below w.heap.size w u
abbrev CellsD (w : World) (b : Nat) (g : Bool) (A : Option Addr) (n c : Nat) (xs : List Nat) (e0 : Int) (w' : World) : Prop :=
  w'.cell? ⟨b, 0, none⟩ = some (.bool g) ∧ w'.cell? ⟨b, 1, none⟩ = some (.slice A n c) ∧ w'.cell? ⟨b, 2, none⟩ = some (.int .i64 e0) ∧ Hid (HoldD w b g A n c xs e0 w')
section
variable {w : World} {b : Nat} {g : Bool} {A : Option Addr} {n c : Nat} {xs : List Nat} {e0 : Int} {u u' : World}
theorem HoldD.below (h : HoldD w b g A n c xs e0 u) (hb : Below u.heap.size u u') : HoldD w b g A n c xs e0 u' := ⟨h.1.below hb, h.2.1.below hb, h.2.2.1.below hb, h.2.2.2.trans (hb.mono h.2.2.2.size)⟩
theorem HoldD.cells (h : HoldD w b g A n c xs e0 u) : CellsD w b g A n c xs e0 u := ⟨h.1.c0, h.1.c1, h.1.c2, h⟩
end

set_option maxHeartbeats 1000000 in
theorem break_l (v : Bool) (g : Bool) (A : Option Addr) (n c : Nat) (xs : List Nat) (e0 : Int) (w : World) (hA : Lim w A n c xs) (hn : n ≤ 4294967296) (hT : Tab w) (hv : Hid (brkO (mk g (val xs) e0) = v)) :
    Calls Tryd.prog 18 #[.agg #[.bool g, .slice A n c, .int .i64 e0]] w fun e w' => e = .returned (.bool v) ∧ Below w.heap.size w w' := by
  have a3 := below1 w (.cells #[.bool g, .slice A n c, .int .i64 e0] 28)
  have H1 := Lib.hid (dbare_any g A n c xs e0 _ (hA.below a3) hn (hT.below a3))
  have HT := Lib.hid (hT.below a3)
  have Hb := Lib.hid (Bd.new w 28 g A n c e0)
  have HS := Lib.hid a3
  obtain ⟨o, ho⟩ : ∃ o, mk g (val xs) e0 = o := ⟨_, rfl⟩
  rw [ho] at H1
  have hv' := hv.out
  rw [ho] at hv'
  clear a3 hA hT hv
  go_enter Tryd.func18, Tryd.ntmps18
  go_wp2_with fail
  refine H1.out.mono ?_
  rintro e w1 ⟨g1, A1, m1, c1, zs, E1, r1, rfl, hm1, hl1, hb1, his, hB1⟩
  have Hk1 := Lib.hid (Hb.out.below hB1)
  have HS1 := Lib.hid (below_put (HS.out.trans (hB1.mono HS.out.size)) (Nat.le_refl _) g1 A1 m1 c1 E1)
  have x0 := Hk1.out.c0
  have x1 := Hk1.out.c1
  have x2 := Hk1.out.c2
  have xf := Hk1.out.fz
  cases o with
  | none =>
    obtain ⟨rfl, rfl, hz, rfl⟩ := his
    obtain rfl : false = v := hv'
    clear ho H1 HT Hb HS hl1 hb1 hz hB1 Hk1
    go_wp2
    go_ret
    exact ⟨rfl, HS1.out⟩
  | some d =>
    obtain ⟨rfl, hg, hz, hE⟩ := his
    have hfine := (mk_fine ho).1
    obtain ⟨dg, dV, dE⟩ := d
    simp only at hg hz hE
    subst hg hE
    have hfe1 := hfine.1
    have hfe2 := hfine.2.1
    simp only at hfe1 hfe2
    have HK : HoldD w w.heap.size g1 A1 m1 c1 zs E1 _ := ⟨Hk1.out.put g1 A1 m1 c1 E1, Hk1.out.lim hl1 g1 A1 m1 c1 E1, Hk1.out.tab (HT.out.below hB1) g1 A1 m1 c1 E1, HS1.out⟩
    have K1 := Lib.hid HK
    have hbl := hl1.blen_le
    rw [hz] at hbl
    have y0 := K1.out.1.c0
    have y1 := K1.out.1.c1
    have y2 := K1.out.1.c2
    clear ho H1 HT Hb HS HS1 hl1 hb1 hB1 Hk1 HK hfine
    unfold brkO at hv'
    simp only at hv'
    by_cases h0 : dV = 0
    · rw [if_pos h0] at hv'
      subst hv'
      have H2 := Lib.hid (top_zero g1 A1 m1 c1 zs E1 _ K1.out.2.1 (by omega) (hz.trans h0))
      clear h0 hz hbl hfe1 hfe2
      go_wp2_with fail
      refine H2.out.mono ?_
      rintro e w2 ⟨rfl, hB2⟩
      have Hfin := Lib.hid (K1.out.below hB2).2.2.2
      clear hB2 H2 K1
      go_wp2
      go_ret
      exact ⟨rfl, Hfin.out⟩
    · rw [if_neg h0] at hv'
      obtain ⟨T, hT⟩ : ∃ T, rtop dV E1 = T := ⟨_, rfl⟩
      have hT' := hT
      unfold rtop at hT'
      have hB := blen_pos h0
      have H2 := Lib.hid (top_l T g1 A1 m1 c1 zs E1 _ K1.out.2.1 (by omega) (by rw [hz]; exact h0) (by show topD _ _ = T; rw [hz, topD, held_id hfe1 hfe2]; exact hT'))
      have hT1 : -1073741824 ≤ T := by omega
      have hT2 : T ≤ 300000000000 := by omega
      rw [hT] at hv'
      by_cases q1 : 1024 ≤ T
      · rw [if_pos q1] at hv'
        have b1 : decide ((1024 : Int) ≤ T) = true := decide_eq_true q1
        by_cases q2 : T = 1024
        · have b2 : (T == 1024) = true := beq_yes q2
          obtain ⟨p, hp⟩ : ∃ p, (E1 == 1024) = p := ⟨_, rfl⟩
          obtain rfl : p = v := by
            rw [← hv', ← hp, q2]
            by_cases h : E1 = 1024
            · rw [beq_yes h, decide_eq_true ⟨rfl, h⟩]
            · rw [beq_no h, decide_eq_false (fun k => h k.2)]
          clear hv' hT hT' q1 q2 h0 hz hbl hB
          go_wp2_with fail
          refine H2.out.mono ?_
          rintro e w2 ⟨rfl, hB2⟩
          have K2 := K1.out.below hB2
          have Hfin := Lib.hid K2.2.2.2
          have z2 := K2.1.c2
          clear hB2 H2 K1 K2
          go_wp2
          go_ret
          exact ⟨rfl, Hfin.out⟩
        · have b2 : (T == 1024) = false := beq_no q2
          obtain rfl : false = v := by rw [← hv']; exact (decide_eq_false (fun k => q2 k.1)).symm
          clear hv' hT hT' q1 q2 h0 hz hbl hB
          go_wp2_with fail
          refine H2.out.mono ?_
          rintro e w2 ⟨rfl, hB2⟩
          have K2 := K1.out.below hB2
          have Hfin := Lib.hid K2.2.2.2
          have z2 := K2.1.c2
          clear hB2 H2 K1 K2
          go_wp2
          go_ret
          exact ⟨rfl, Hfin.out⟩
      · rw [if_neg q1] at hv'
        have b1 : decide ((1024 : Int) ≤ T) = false := decide_eq_false q1
        obtain ⟨u, hu⟩ : ∃ u, ru dV E1 = u := ⟨_, rfl⟩
        have hu' := hu
        unfold ru at hu'
        have hu1 : -1074 ≤ u := by omega
        have hu2 : u ≤ 2000 := by omega
        rw [hu] at hv'
        have HU : Hid (∀ s, CellsD w w.heap.size g1 A1 m1 c1 zs E1 s → Calls Tryd.prog 33 #[.agg #[.bool g1, .slice A1 m1 c1, .int .i64 E1]] s fun e w' => e = .returned (.int .i64 u) ∧ CellsD w w.heap.size g1 A1 m1 c1 zs E1 w') := fun s hs => by
          have h := hs.2.2.2.out
          refine (unit_l u g1 A1 m1 c1 zs E1 s h.2.1 (by omega) ?_).mono ?_
          · show duni (val zs) E1 = u
            rw [hz, duni, if_neg h0, topD, held_id hfe1 hfe2]
            exact hu'
          · rintro e w' ⟨rfl, hb'⟩
            exact ⟨rfl, (h.below hb').cells⟩
        have Hv : Hid (decide (IntKind.i64.wrap (u - 1) ≤ E1) = v) := by rw [show IntKind.i64.wrap (u - 1) = u - 1 from by rw [IntKind.wrap_i64]; omega]; exact hv'
        clear hv' hT hT' hu' hu q1 h0 hz hbl hB
        go_wp2_with fail
        refine H2.out.mono ?_
        rintro e w2 ⟨rfl, hB2⟩
        have K2 := K1.out.below hB2
        have K3 := Lib.hid (K2.below (below_drew _)).cells
        clear hB2 H2 K1 K2
        go_wp2_with fail
        go_region_held3 (fun w' => w'.cell? ⟨w.heap.size, 0, none⟩ = some (.bool g1) ∧ w'.cell? ⟨w.heap.size, 1, none⟩ = some (.slice A1 m1 c1) ∧ w'.cell? ⟨w.heap.size, 2, none⟩ = some (.int .i64 E1) ∧ Hid (HoldD w w.heap.size g1 A1 m1 c1 zs E1 w'))
          (first | (with_reducible exact K3.out) | (with_reducible assumption))
          (first | (go_at_call 33; (with_reducible refine (HU.out _ (by first | (with_reducible exact K3.out) | (with_reducible assumption))).mono ?_); rintro e w3 ⟨rfl, hY⟩))
        all_goals (
          have Hfin := Lib.hid hY.2.2.2.out.2.2.2
          clear hY HU K3
          go_wp2_with fail
          go_ret
          exact ⟨congrArg (fun v => Ending.returned (.bool v)) Hv.out, Hfin.out⟩)
end Go.Proofs.YtgacafdkhailmaaDoor

/- The walk of next.floor. -/
namespace Go.Proofs.YtgacafdkhailmaaDoor
open Go.RowKit

/-- Of 0. -/
theorem floor_zero (g : Bool) (A : Option Addr) (n c : Nat) (xs : List Nat) (w : World) (hA : Lim w A n c xs) (hn : n ≤ 4294967296) (hT : Tab w) (h0 : val xs = 0) :
    Calls Tryd.prog 42 #[.agg #[.bool g, .slice A n c, .int .i64 0]] w fun e w' => e = .returned (.tuple #[.int .u64 0, .bool true]) ∧ Below w.heap.size w w' := by
  have a1 := below1 w (.cells #[.bool false, .slice A n c, .int .i64 0] 28)
  have K0 : HoldD w w.heap.size false A n c xs 0 _ := ⟨Bd.new w 28 false A n c 0, hA.below a1, hT.below a1, a1⟩
  have HK := Lib.hid K0
  have H1 := Lib.hid (unit_l (-1074) false A n c xs 0 _ K0.2.1 hn (by show duni _ _ = _; unfold duni; rw [if_pos h0]))
  have HE : Hid (exD (nO false (val xs) 0) = (0, true)) := by show _ = _; rw [h0, nO_zero]; rfl
  clear a1 K0 hA hT h0
  go_enter Tryd.func42, Tryd.ntmps42
  go_wp2_with fail
  refine H1.out.mono ?_
  rintro e w1 ⟨rfl, hb⟩
  have K1 := HK.out.below hb
  have H2 := Lib.hid (exact_l 0 true false A n c xs 0 w1 K1.2.1 hn K1.2.2.1 HE)
  have HK1 := Lib.hid K1
  have x0 := K1.1.c0
  have x1 := K1.1.c1
  have x2 := K1.1.c2
  clear hb K1 HK H1
  go_wp2_with fail
  refine H2.out.mono ?_
  rintro e w2 ⟨rfl, hb⟩
  have Hfin := Lib.hid (HK1.out.below hb).2.2.2
  clear hb HK1 H2 x0 x1 x2
  go_wp2
  go_ret2
  exact ⟨rfl, Hfin.out⟩

set_option maxHeartbeats 1000000 in
theorem floor_l (X : Nat) (ok : Bool) (g : Bool) (A : Option Addr) (n c : Nat) (xs : List Nat) (e0 : Int) (w : World) (hA : Lim w A n c xs) (hn : n ≤ 4294967296) (hT : Tab w) (h0 : val xs ≠ 0) (h1 : -1073741824 ≤ e0) (h2 : e0 ≤ 1073741824) (ht : rtop (val xs) e0 ≤ 1023)
    (hX : Hid (rX (val xs) e0 = X)) (hok : Hid (jst (val xs) e0 (ru (val xs) e0) = ok)) :
    Calls Tryd.prog 42 #[.agg #[.bool g, .slice A n c, .int .i64 e0]] w fun e w' => e = .returned (.tuple #[.int .u64 (X : Int), .bool ok]) ∧ Below w.heap.size w w' := by
  have a1 := below1 w (.cells #[.bool false, .slice A n c, .int .i64 e0] 28)
  have K0 : HoldD w w.heap.size false A n c xs e0 _ := ⟨Bd.new w 28 false A n c e0, hA.below a1, hT.below a1, a1⟩
  have HK := Lib.hid K0
  have hp := low_parts h0 h1 h2 ht
  rw [hX.out] at hp
  have hB := blen_pos h0
  obtain ⟨u, hu⟩ : ∃ u, ru (val xs) e0 = u := ⟨_, rfl⟩
  have hu' : max ((blen (val xs) : Int) - 1 + e0 - 52) (-1074) = u := hu
  have ht' : (blen (val xs) : Int) - 1 + e0 ≤ 1023 := ht
  have hu1 : -1074 ≤ u := by omega
  have hu2 : u ≤ 2000 := by omega
  have H1 := Lib.hid (unit_l u false A n c xs e0 _ K0.2.1 hn (by show duni _ _ = _; rw [duni, if_neg h0, topD, held_id h1 h2]; exact hu'))
  rw [hu] at hp
  have hok' := hok.out
  rw [hu] at hok'
  unfold jst at hok'
  unfold rU at hp
  by_cases hc : u ≤ e0
  · rw [if_pos hc] at hok' hp
    subst hok'
    obtain ⟨k, hk⟩ : ∃ k : Nat, (e0 - u).toNat = k := ⟨_, rfl⟩
    rw [hk, nO_shift false (by omega) (by omega) h0, show u + (k : Int) = e0 by omega] at hp
    have HE := Lib.hid hp
    have b1 : decide (u ≤ e0) = true := decide_eq_true hc
    clear a1 K0 hA hT h0 hp hB hu hu' ht ht' hX hok hc hk
    go_enter Tryd.func42, Tryd.ntmps42
    go_wp2_with fail
    refine H1.out.mono ?_
    rintro e w1 ⟨rfl, hb⟩
    have K1 := HK.out.below hb
    have H2 := Lib.hid (exact_l X true false A n c xs e0 w1 K1.2.1 hn K1.2.2.1 HE)
    have HK1 := Lib.hid K1
    have x0 := K1.1.c0
    have x1 := K1.1.c1
    have x2 := K1.1.c2
    clear hb K1 HK H1
    go_wp2_with fail
    refine H2.out.mono ?_
    rintro e w2 ⟨rfl, hb⟩
    have Hfin := Lib.hid (HK1.out.below hb).2.2.2
    clear hb HK1 H2 x0 x1 x2
    go_wp2
    go_ret2
    exact ⟨rfl, Hfin.out⟩
  · rw [if_neg hc] at hok' hp
    obtain ⟨N, hN⟩ : ∃ N : Nat, (u - e0).toNat = N := ⟨_, rfl⟩
    rw [hN] at hok'
    rw [Nat.div_div_eq_div_mul, ← Nat.pow_succ, show (u - e0 - 1).toNat.succ = N by omega] at hp
    have eN : u - e0 = (N : Int) := by omega
    have hN9 : N ≤ 9223372036854775807 := by omega
    obtain ⟨U, hU⟩ : ∃ U, val xs / 2 ^ N = U := ⟨_, rfl⟩
    rw [hU] at hp
    obtain ⟨d, hd⟩ : ∃ d, mk false U u = some d := by
      cases hm : mk false U u with
      | some d => exact ⟨d, rfl⟩
      | none => rw [mk_none hm] at hp; cases (Prod.mk.inj hp).2
    have hE : exD (nO d.neg d.V d.e) = (X, true) := by rw [mk_is (mk_self hd), ← mk_is hd]; exact hp
    have HE := Lib.hid hE
    have Hd := Lib.hid hd
    have HU := Lib.hid hU
    have Hok : Hid ((!decide (val xs % 2 ^ N ≠ 0)) = ok) := by
      show (!decide (val xs % 2 ^ N ≠ 0)) = ok
      rw [← hok']
      by_cases hz : val xs % 2 ^ N = 0
      · rw [decide_eq_false (show ¬ val xs % 2 ^ N ≠ 0 from fun h => h hz), decide_eq_true hz]; rfl
      · rw [decide_eq_true hz, decide_eq_false hz]; rfl
    obtain ⟨bb, hbb⟩ : ∃ bb, decide (val xs % 2 ^ N ≠ 0) = bb := ⟨_, rfl⟩
    rw [hbb] at Hok
    have Hbb := Lib.hid hbb
    obtain ⟨dg, dV, dE⟩ := d
    simp only at HE
    have b1 : decide (u ≤ e0) = false := decide_eq_false hc
    clear a1 K0 hA hT h0 hp hB hu hu' ht ht' hX hok hc hN hU hd hE hok' hbb
    go_enter Tryd.func42, Tryd.ntmps42
    go_wp2_with fail
    refine H1.out.mono ?_
    rintro e w1 ⟨rfl, hb⟩
    have K1 := HK.out.below hb
    have H2 := shr_l N A n c xs w1 K1.2.1 (by omega) K1.2.2.1 hN9 bb Hbb
    rw [HU.out] at H2
    have H2 := Lib.hid H2
    have HK1 := Lib.hid K1
    have x0 := K1.1.c0
    have x1 := K1.1.c1
    have x2 := K1.1.c2
    clear hb K1 HK H1 HU Hbb
    go_wp2_with fail
    refine H2.out.mono ?_
    rintro e w2 ⟨A2, m2, c2, us, rfl, hm2, hl2, hb2, hv2, hB2⟩
    have K2 := HK1.out.below hB2
    have H3 := make_any false A2 m2 c2 us u w2 hl2 (by omega) K2.2.2.1
    rw [hv2, Hd.out] at H3
    have H3 := Lib.hid H3
    have HK2 := Lib.hid K2
    clear hl2 hb2 hv2 hB2 K2 H2 HK1 Hd x0 x1 x2
    go_wp2_with fail
    refine H3.out.mono ?_
    rintro e w3 ⟨g3, A3, m3, c3, ts, E3, r3, rfl, hm3, hl3, hb3, ⟨rfl, rfl, hz3, rfl⟩, hB3⟩
    have a4 := below1 w3 (.cells #[.bool g3, .slice A3 m3 c3, .int .i64 E3] 28)
    have K3 := (HK2.out.below hB3).below a4
    have H4 := Lib.hid (exact_l X true g3 A3 m3 c3 ts E3 _ (hl3.below a4) (by omega) K3.2.2.1 (by show exD (nO g3 (val ts) E3) = _; rw [hz3]; exact HE.out))
    have HK3 := Lib.hid K3
    clear hl3 hb3 hB3 K3 H3 HK2 HE a4
    go_wp2_with fail
    refine H4.out.mono ?_
    rintro e w4 ⟨rfl, hb⟩
    have Hfin := Lib.hid (HK3.out.below hb).2.2.2
    clear hb HK3 H4
    go_wp2
    go_ret2
    exact ⟨by rw [← Hok.out]; rfl, Hfin.out⟩
end Go.Proofs.YtgacafdkhailmaaDoor

/- The walk of next.Between. -/
namespace Go.Proofs.YtgacafdkhailmaaDoor
open Go.RowKit

set_option maxHeartbeats 1000000 in
theorem between_l (X Y : Nat) (ok : Bool) (g : Bool) (A : Option Addr) (n c : Nat) (xs : List Nat) (e0 : Int) (w : World) (hA : Lim w A n c xs) (hn : n ≤ 4294967296) (hT : Tab w) (hv : Hid (btwO (mk g (val xs) e0) = (X, Y, ok))) :
    Calls Tryd.prog 17 #[.agg #[.bool g, .slice A n c, .int .i64 e0]] w fun e w' => e = .returned (.tuple #[.int .u64 (X : Int), .int .u64 (Y : Int), .bool ok]) ∧ Below w.heap.size w w' := by
  have a3 := below1 w (.cells #[.bool g, .slice A n c, .int .i64 e0] 28)
  have H1 := Lib.hid (dbare_any g A n c xs e0 _ (hA.below a3) hn (hT.below a3))
  have HT := Lib.hid (hT.below a3)
  have Hb := Lib.hid (Bd.new w 28 g A n c e0)
  have HS := Lib.hid a3
  obtain ⟨o, ho⟩ : ∃ o, mk g (val xs) e0 = o := ⟨_, rfl⟩
  rw [ho] at H1
  have hv' := hv.out
  rw [ho] at hv'
  clear a3 hA hT hv
  go_enter Tryd.func17, Tryd.ntmps17
  go_wp2_with fail
  refine H1.out.mono ?_
  rintro e w1 ⟨g1, A1, m1, c1, zs, E1, r1, rfl, hm1, hl1, hb1, his, hB1⟩
  have Hk1 := Lib.hid (Hb.out.below hB1)
  have HS1 := Lib.hid (below_put (HS.out.trans (hB1.mono HS.out.size)) (Nat.le_refl _) g1 A1 m1 c1 E1)
  have x0 := Hk1.out.c0
  have x1 := Hk1.out.c1
  have x2 := Hk1.out.c2
  have xf := Hk1.out.fz
  cases o with
  | none =>
    obtain ⟨rfl, rfl, hz, rfl⟩ := his
    have hv2 : ((0 : Nat), (0 : Nat), false) = (X, Y, ok) := hv'
    simp only [Prod.mk.injEq] at hv2
    obtain ⟨rfl, rfl, rfl⟩ := hv2
    clear hv' ho H1 HT Hb HS hl1 hb1 hz hB1 Hk1
    go_wp2
    go_ret3
    exact ⟨rfl, HS1.out⟩
  | some d =>
    obtain ⟨rfl, hg, hz, hE⟩ := his
    have hfine := (mk_fine ho).1
    obtain ⟨dg, dV, dE⟩ := d
    simp only at hg hz hE
    subst hg hE
    have hfe1 := hfine.1
    have hfe2 := hfine.2.1
    have hfe3 := hfine.2.2
    simp only at hfe1 hfe2 hfe3
    have HK : HoldD w w.heap.size g1 A1 m1 c1 zs E1 _ := ⟨Hk1.out.put g1 A1 m1 c1 E1, Hk1.out.lim hl1 g1 A1 m1 c1 E1, Hk1.out.tab (HT.out.below hB1) g1 A1 m1 c1 E1, HS1.out⟩
    have K1 := Lib.hid HK
    have hbl := hl1.blen_le
    rw [hz] at hbl
    have y0 := K1.out.1.c0
    have y1 := K1.out.1.c1
    have y2 := K1.out.1.c2
    clear ho H1 HT Hb HS HS1 hl1 hb1 hB1 Hk1 HK hfine
    unfold btwO at hv'
    simp only at hv'
    by_cases h0 : dV = 0
    · rw [if_pos h0] at hv'
      simp only [Prod.mk.injEq] at hv'
      obtain ⟨rfl, rfl, rfl⟩ := hv'
      have H2 := Lib.hid (top_zero g1 A1 m1 c1 zs E1 _ K1.out.2.1 (by omega) (hz.trans h0))
      obtain ⟨rfl, rfl⟩ := hfe3 h0
      have Hz := Lib.hid (hz.trans h0)
      clear h0 hz hbl hfe1 hfe2 hfe3
      go_wp2_with fail
      refine H2.out.mono ?_
      rintro e w2 ⟨rfl, hB2⟩
      have K2 := K1.out.below hB2
      have H3 := Lib.hid (floor_zero false A1 m1 c1 zs w2 K2.2.1 (by omega) K2.2.2.1 Hz.out)
      have HK2 := Lib.hid K2
      have z0 := K2.1.c0
      have z1 := K2.1.c1
      have z2 := K2.1.c2
      clear hB2 H2 K1 K2 x0 x1 x2 xf y0 y1 y2
      go_wp2_with fail
      refine H3.out.mono ?_
      rintro e w3 ⟨rfl, hB3⟩
      have Hfin := Lib.hid (HK2.out.below hB3).2.2.2
      clear hB3 H3 HK2 z0 z1 z2
      go_wp2
      go_ret3
      exact ⟨rfl, Hfin.out⟩
    · rw [if_neg h0] at hv'
      obtain ⟨T, hT⟩ : ∃ T, rtop dV E1 = T := ⟨_, rfl⟩
      have hT' := hT
      unfold rtop at hT'
      have hB := blen_pos h0
      have H2 := Lib.hid (top_l T g1 A1 m1 c1 zs E1 _ K1.out.2.1 (by omega) (by rw [hz]; exact h0) (by show topD _ _ = T; rw [hz, topD, held_id hfe1 hfe2]; exact hT'))
      have hT1 : -1073741824 ≤ T := by omega
      have hT2 : T ≤ 300000000000 := by omega
      rw [hT] at hv'
      by_cases q1 : 1024 ≤ T
      · rw [if_pos q1] at hv'
        simp only [Prod.mk.injEq] at hv'
        obtain ⟨rfl, rfl, rfl⟩ := hv'
        have b1 : decide ((1024 : Int) ≤ T) = true := decide_eq_true q1
        clear hT hT' q1 h0 hz hbl hB hfe3
        go_wp2_with fail
        refine H2.out.mono ?_
        rintro e w2 ⟨rfl, hB2⟩
        have Hfin := Lib.hid (K1.out.below hB2).2.2.2
        clear hB2 H2 K1
        go_wp2
        go_ret3
        exact ⟨rfl, Hfin.out⟩
      · rw [if_neg q1] at hv'
        have b1 : decide ((1024 : Int) ≤ T) = false := decide_eq_false q1
        simp only [Prod.mk.injEq] at hv'
        obtain ⟨hX, hY, rfl⟩ := hv'
        obtain ⟨j, hj⟩ : ∃ j, jst dV E1 (ru dV E1) = j := ⟨_, rfl⟩
        rw [hX, hj] at hY
        have hXb : X < 9218868437227405312 := by
          rw [← hX]
          exact (rnd_low h0 hfe1 hfe2 (by omega)).1
        have HF : Hid (∀ s, HoldD w w.heap.size g1 A1 m1 c1 zs E1 s → Calls Tryd.prog 42 #[.agg #[.bool g1, .slice A1 m1 c1, .int .i64 E1]] s fun e w' => e = .returned (.tuple #[.int .u64 (X : Int), .bool j]) ∧ Below s.heap.size s w') := fun s hs =>
          floor_l X j g1 A1 m1 c1 zs E1 s hs.2.1 (by omega) hs.2.2.1 (by rw [hz]; exact h0) hfe1 hfe2 (by rw [hz]; omega) (by show rX _ _ = X; rw [hz]; exact hX) (by show jst _ _ _ = j; rw [hz]; exact hj)
        clear hT hT' q1 h0 hz hbl hB hfe3 hX hj
        cases j with
        | true =>
          obtain rfl : X = Y := hY
          go_wp2_with fail
          refine H2.out.mono ?_
          rintro e w2 ⟨rfl, hB2⟩
          have K2 := K1.out.below hB2
          have H3 := Lib.hid (HF.out w2 K2)
          have HK2 := Lib.hid K2
          have z0 := K2.1.c0
          have z1 := K2.1.c1
          have z2 := K2.1.c2
          clear hB2 H2 K1 K2 x0 x1 x2 xf y0 y1 y2 HF
          go_wp2_with fail
          refine H3.out.mono ?_
          rintro e w3 ⟨rfl, hB3⟩
          have Hfin := Lib.hid (HK2.out.below hB3).2.2.2
          clear hB3 H3 HK2 z0 z1 z2
          go_wp2
          go_ret3
          exact ⟨rfl, Hfin.out⟩
        | false =>
          have hY2 : X + 1 = Y := hY
          have eY : (X : Int) + 1 = (Y : Int) := by omega
          have hYb : Y < 18446744073709551616 := by omega
          clear hY hY2
          go_wp2_with fail
          refine H2.out.mono ?_
          rintro e w2 ⟨rfl, hB2⟩
          have K2 := K1.out.below hB2
          have H3 := Lib.hid (HF.out w2 K2)
          have HK2 := Lib.hid K2
          have z0 := K2.1.c0
          have z1 := K2.1.c1
          have z2 := K2.1.c2
          clear hB2 H2 K1 K2 x0 x1 x2 xf y0 y1 y2 HF
          go_wp2_with fail
          refine H3.out.mono ?_
          rintro e w3 ⟨rfl, hB3⟩
          have Hfin := Lib.hid (HK2.out.below hB3).2.2.2
          clear hB3 H3 HK2 z0 z1 z2
          go_wp2
          go_ret3
          exact ⟨rfl, Hfin.out⟩
end Go.Proofs.YtgacafdkhailmaaDoor

/- What the laws of layer 8 rest on: numbers alone; planimeterlaw08.alive. -/
namespace Go.Proofs.YtgacafdkhailmaaDoor
open Go.RowKit

theorem mid_break {b : Nat} (hf : Fnt b) : brkO (mk (fng b) (2 * fm b + 1) (fe b - 1)) = true := by
  have hbd := fe_bd hf
  rw [mid_mk hf]
  exact (brk_low (m := fm b) rfl (by omega) (by omega) (mid_low hf)).2 (Or.inr ⟨fin_lt hf, Or.inr (mid_size hf)⟩)
theorem mid_between {b x : Nat} (hf : Fnt b) (hx : b % 9223372036854775808 = x) : btwO (mk (fng b) (2 * fm b + 1) (fe b - 1)) = (x, x + 1, true) := by
  have hbd := fe_bd hf
  have hl := fin_lt hf
  have h1 := mid_size hf
  have h2 := vX_lt hl
  have h3 := mid_low hf
  rw [hx] at h1 h2 h3 hl
  rw [mid_mk hf, midD, btw_low (by omega) (by omega) (by omega) h3, if_neg (by omega)]
theorem num_break {b : Nat} (hf : Fnt b) : brkO (mk (fO b).neg (fO b).V (fO b).e) = true := by
  have hs := mk_self (mk_fin hf)
  rw [hs]
  have hfine := (mk_fine hs).1
  have hl := fin_lt hf
  have h2 := vX_lt hl
  have hz := fO_size hf
  rcases nO_odd (fng b) (fm b) (fe b) with ⟨m, hm⟩ | h
  · have hm' : (fO b).V = 2 * m + 1 := hm
    have h3 : IsLow (sz (fO b).V (fO b).e) (b % 9223372036854775808) := ⟨by omega, by omega, fun _ => by omega⟩
    exact (brk_low (g := (fO b).neg) hm' hfine.1 hfine.2.1 h3).2 (Or.inr ⟨hl, Or.inl hz⟩)
  · have h' : fO b = ⟨false, 0, 0⟩ := h
    rw [h']; rfl
/-- A little beside a middle. -/
theorem tiny_mk : mk false 1 (-1100) = some ⟨false, 1, -1100⟩ := mk_odd (m := 0) rfl (by decide) (by decide)
theorem tiny_break {b : Nat} (hf : Fnt b) : ∃ d, addO (mk (fng b) (2 * fm b + 1) (fe b - 1)) (mk false 1 (-1100)) = some d ∧ brkO (mk d.neg d.V d.e) = false := by
  have hbd := fe_bd hf
  rw [mid_mk hf, tiny_mk]
  obtain ⟨k, hk⟩ : ∃ k : Nat, (fe b - 1 - -1100).toNat = k + 1 := ⟨(fe b - 1 - -1100).toNat - 1, by omega⟩
  have hm := (f_parts b).2.1
  have hB : blen (2 * fm b + 1) ≤ 54 := blen_le_iff.2 (show 2 * fm b + 1 < 18014398509481984 by omega)
  obtain ⟨y, hy⟩ : ∃ y, (2 * fm b + 1) * 2 ^ k = y := ⟨_, rfl⟩
  have hy0 : 0 < y := by rw [← hy]; exact Nat.mul_pos (by omega) (Nat.two_pow_pos _)
  have hx : (midD b).V * 2 ^ ((midD b).e - (-1100)).toNat = 2 * y := by
    show (2 * fm b + 1) * 2 ^ (fe b - 1 - -1100).toNat = 2 * y
    rw [hk, Nat.pow_succ, ← Nat.mul_assoc, hy, Nat.mul_comm]
  have h := addB_near (a := midD b) (b := ⟨false, 1, -1100⟩) (lo := -1100) (x := 2 * y) (y := 1) (by show 2 * fm b + 1 ≠ 0; omega) (by show (1 : Nat) ≠ 0; decide) (by show min (fe b - 1) (-1100) = -1100; omega) hx (by show 1 * 2 ^ ((-1100 : Int) - -1100).toNat = 1; decide) (by
    show max ((blen (2 * fm b + 1) : Int) - 1 + (fe b - 1)) ((blen 1 : Int) - 1 + -1100) - -1100 ≤ 65535
    rw [show blen 1 = 1 from by decide]
    omega)
  have hbrk : ∀ (g : Bool) (V m : Nat), V = 2 * m + 1 → brkO (mk g V (-1100)) = false := fun g V m hV => by
    rw [mk_odd hV (by decide) (by decide)]
    have h0 : V ≠ 0 := by omega
    unfold brkO
    simp only
    rw [if_neg h0]
    have hr : ¬ ru V (-1100) - 1 ≤ -1100 := by unfold ru; omega
    split
    · exact decide_eq_false (fun h => by omega)
    · exact decide_eq_false hr
  show ∃ d, addB (midD b) ⟨false, 1, -1100⟩ = some d ∧ _
  rw [h]
  by_cases hg : (midD b).neg = false
  · rw [if_pos hg]
    refine ⟨_, mk_odd (m := y) rfl (by decide) (by decide), ?_⟩
    exact hbrk _ _ y rfl
  · rw [if_neg hg, if_neg (show ¬ 2 * y < 1 by omega)]
    refine ⟨_, mk_odd (m := y - 1) (by omega) (by decide) (by decide), ?_⟩
    exact hbrk (midD b).neg (2 * y - 1) (y - 1) (by omega)

theorem vX_zero : vX 0 = 0 := by unfold vX; rw [show fm 0 = 0 from by decide, Nat.zero_mul]
theorem fO_dw {b : Nat} (hf : Fnt b) : dw (fO b).neg (fO b).V (fO b).e = if fng b then -(vX (b % 9223372036854775808) : Int) else (vX (b % 9223372036854775808) : Int) := by
  have hs := fO_size hf
  by_cases h0 : fm b = 0
  · rw [fO_zero h0, (fm_zero_iff b).1 h0, vX_zero]
    show dw false 0 0 = _
    rw [dw_zero]
    split <;> rfl
  · obtain ⟨k1, _, _⟩ := fO_pos hf h0
    unfold dw
    rw [hs, k1]
/-- The next greater one is greater, and back. -/
theorem up_back {b u : Nat} (hb : b < 18446744073709551616) (hf : Fnt b) (hu : nupX b = u) (hfu : Fnt u) : (ndnX u = b ∨ fm b = 0) ∧ cmpI (dw (fO b).neg (fO b).V (fO b).e) (dw (fO u).neg (fO u).V (fO u).e) = -1 := by
  have hl := fin_lt hf
  have hlu := fin_lt hfu
  rw [fO_dw hf, fO_dw hfu]
  unfold nupX at hu
  by_cases h0 : fm b = 0
  · rw [if_pos h0] at hu
    refine ⟨Or.inr h0, cmpI_lt ?_⟩
    rw [(fm_zero_iff b).1 h0, vX_zero, ← hu]
    have h1 := vX_lt (X := 0) (by decide)
    rw [vX_zero] at h1
    show (if fng b then -((0 : Nat) : Int) else ((0 : Nat) : Int)) < if fng 1 then _ else (vX (1 % 9223372036854775808) : Int)
    rw [show fng 1 = false from by decide, if_neg (by decide : ¬ false = true), show 1 % 9223372036854775808 = 0 + 1 from by decide]
    split <;> omega
  · rw [if_neg h0] at hu
    have hx0 : b % 9223372036854775808 ≠ 0 := fun h => h0 ((fm_zero_iff b).2 h)
    by_cases hg : 9223372036854775808 ≤ b
    · have e1 : fng b = true := decide_eq_true hg
      rw [e1, if_pos rfl] at hu
      have e2 : fng u = true := decide_eq_true (by omega)
      obtain ⟨x, hx⟩ : ∃ x, u % 9223372036854775808 = x := ⟨_, rfl⟩
      have hbx : b % 9223372036854775808 = x + 1 := by omega
      constructor
      · refine Or.inl ?_
        have f1 : flp u = x := by rw [flp, e2, if_pos rfl]; omega
        have f2 : nupX x = x + 1 := by
          unfold nupX
          by_cases hz : fm x = 0
          · have hz' := (fm_zero_iff x).1 hz
            rw [if_pos hz]; omega
          · rw [if_neg hz, show fng x = false from decide_eq_false (by omega), if_neg (by decide)]
        rw [ndnX, f1, f2, flp, show fng (x + 1) = false from decide_eq_false (by omega), if_neg (by decide)]
        omega
      · rw [e1, e2, if_pos rfl, if_pos rfl, hbx, hx]
        have := vX_lt (X := x) (by omega)
        exact cmpI_lt (by omega)
    · have e1 : fng b = false := decide_eq_false hg
      rw [e1, if_neg (by decide)] at hu
      have e2 : fng u = false := decide_eq_false (by omega)
      have hbx : b % 9223372036854775808 = b := by omega
      have hux : u % 9223372036854775808 = b + 1 := by omega
      constructor
      · refine Or.inl ?_
        have f1 : flp u = b + 1 + 9223372036854775808 := by rw [flp, e2, if_neg (by decide)]; omega
        have f2 : nupX (b + 1 + 9223372036854775808) = b + 9223372036854775808 := by
          unfold nupX
          rw [if_neg (fun h => by have := (fm_zero_iff _).1 h; omega), show fng (b + 1 + 9223372036854775808) = true from decide_eq_true (by omega), if_pos rfl]
          omega
        rw [ndnX, f1, f2, flp, show fng (b + 9223372036854775808) = true from decide_eq_true (by omega), if_pos rfl]
        omega
      · rw [e1, e2, if_neg (by decide), if_neg (by decide), hbx, hux]
        have := vX_lt (X := b) (by omega)
        exact cmpI_lt (by omega)
/-- The middles beside a size, in order. -/
theorem beside_less {x : Nat} (h0 : x ≠ 0) (hl : x < 9218868437227405312) : cmpI (dw (midD (x - 1)).neg (midD (x - 1)).V (midD (x - 1)).e) (dw (midD x).neg (midD x).V (midD x).e) = -1 := by
  have hf1 : Fnt (x - 1) := fin_of_lt (by omega)
  have hf2 : Fnt x := fin_of_lt (by omega)
  have s1 := mid_size hf1
  have s2 := mid_size hf2
  rw [Nat.mod_eq_of_lt (by omega)] at s1 s2
  rw [show x - 1 + 1 = x by omega] at s1
  have v1 := vX_lt (X := x - 1) (by omega)
  have v2 := vX_lt hl
  rw [show x - 1 + 1 = x by omega] at v1
  have e1 : dw (midD (x - 1)).neg (midD (x - 1)).V (midD (x - 1)).e = (sz (2 * fm (x - 1) + 1) (fe (x - 1) - 1) : Int) := by
    show dw (fng (x - 1)) _ _ = _
    rw [show fng (x - 1) = false from decide_eq_false (by omega)]; rfl
  have e2 : dw (midD x).neg (midD x).V (midD x).e = (sz (2 * fm x + 1) (fe x - 1) : Int) := by
    show dw (fng x) _ _ = _
    rw [show fng x = false from decide_eq_false (by omega)]; rfl
  rw [e1, e2]
  exact cmpI_lt (by omega)

theorem one_fin : Fnt 4607182418800017408 := by decide
theorem one_mid : midD 4607182418800017408 = ⟨false, 9007199254740993, -53⟩ := by
  have h1 : fng 4607182418800017408 = false := by decide
  have h2 : 2 * fm 4607182418800017408 + 1 = 9007199254740993 := by decide
  have h3 : fe 4607182418800017408 - 1 = -53 := by decide
  unfold midD
  rw [h1, h2, h3]
theorem one_break : brkO (mk false 9007199254740993 (-53)) = true := by
  have h := mid_break one_fin
  have h1 : fng 4607182418800017408 = false := by decide
  have h2 : 2 * fm 4607182418800017408 + 1 = 9007199254740993 := by decide
  have h3 : fe 4607182418800017408 - 1 = -53 := by decide
  rw [h1, h2, h3] at h
  exact h
theorem one_up : nupX 4607182418800017408 = 4607182418800017409 := by decide
theorem val_single (x : Nat) : val [x] = x := by show x + 18446744073709551616 * 0 = x; omega

set_option maxHeartbeats 1000000 in
theorem nalive_any (w : World) (hT : Tab w) : Calls Tryd.prog 7 #[] w fun e w' => e = .returned (.bool true) ∧ Below w.heap.size w w' := by
  have H1 := mid_yes 4607182418800017408 (by decide) w hT one_fin
  rw [one_mid] at H1
  have H1 := Lib.hid H1
  have HT := Lib.hid hT
  clear hT
  go_enter Tryd.func7, Tryd.ntmps7
  go_wp2_with fail
  refine H1.out.mono ?_
  rintro e w1 ⟨A1, m1, c1, q1, rfl, hm1, hl1, hb1, hv1, hb⟩
  obtain rfl : q1 = [9007199254740993] := bare_eq hl1.words (Words.one (by decide)) hb1 (bare_one (by decide)) (hv1.trans (val_single _).symm)
  obtain rfl : m1 = 1 := hl1.len.symm
  have a1 := below1 w1 (.cells #[.bool false, .slice A1 1 c1, .int .i64 (-53)] 28)
  have Hb1 := Lib.hid (hb.trans (a1.mono hb.size))
  have Hq1 := Lib.hid (hl1.below a1)
  have Hd1 := Lib.hid (Bd.new w1 28 false A1 1 c1 (-53))
  clear hl1 hb1 hv1 hb H1 a1
  go_wp2_with fail
  refine (up_yes 4607182418800017409 4607182418800017408 (by decide) _ one_fin one_up).mono ?_
  rintro e w2 ⟨rfl, rfl⟩
  have x0 := Hd1.out.c0
  have x1 := Hd1.out.c1
  have x2 := Hd1.out.c2
  have a3 := below1 (w1.alloc (.cells #[.bool false, .slice A1 1 c1, .int .i64 (-53)] 28)) (.cells #[.int .u64 9007199254740993] 22)
  have n1 := lim_new1 (w1.alloc (.cells #[.bool false, .slice A1 1 c1, .int .i64 (-53)] 28)) 22 9007199254740993 9007199254740993 rfl (by decide)
  rw [World.size_alloc] at n1
  have H3 := Lib.hid (fsame_yes false A1 1 c1 [9007199254740993] (-53) _ 1 _ (Hq1.out.below a3) n1 (by decide))
  have HB3 := Lib.hid (Hb1.out.trans (a3.mono Hb1.out.size))
  have Hq3 := Lib.hid (Hq1.out.below a3)
  have Hd3 := Lib.hid (Hd1.out.below a3)
  clear a3 n1 Hb1 Hq1 Hd1
  go_wp2_with fail
  refine H3.out.mono ?_
  rintro e w3 ⟨rfl, hb⟩
  have HB4 := Lib.hid (HB3.out.trans (hb.mono HB3.out.size))
  have H4 := Lib.hid (break_l true false A1 1 c1 [9007199254740993] (-53) w3 (Hq3.out.below hb) (by decide) (HT.out.below HB4.out) (by show brkO (mk false (val [9007199254740993]) (-53)) = true; rw [val_single]; exact one_break))
  have Hd4 := Hd3.out.below hb
  have y0 := Hd4.c0
  have y1 := Hd4.c1
  have y2 := Hd4.c2
  clear hb H3 HB3 Hq3 Hd3 Hd4 x0 x1 x2
  go_wp2_with fail
  refine H4.out.mono ?_
  rintro e w4 ⟨rfl, hb⟩
  have Hfin := Lib.hid (HB4.out.trans (hb.mono HB4.out.size))
  clear hb HB4 H4 y0 y1 y2
  go_wp2
  go_ret
  exact ⟨rfl, Hfin.out⟩
end Go.Proofs.YtgacafdkhailmaaDoor

/- The document's Cmp and Below, of 0 too (written out of RnCmp and RnBelow). -/
namespace Go.Proofs.YtgacafdkhailmaaDoor
open Go.RowKit

set_option maxHeartbeats 2000000 in
theorem rncmp_nil (v : Int) (A : Option Addr) (n c : Nat) (ds : List Nat) (e1 : Int) (B : Option Addr) (m d : Nat) (es : List Nat) (e2 : Int) (w : World) (hA : Dig w A n c ds) (hB : Dig w B m d es) (ba : D.Bare ds) (bb : D.Bare es) (hU : D.val es = 0) (hv : Hid (cmpZ (sz (D.val ds) e1) (sz (D.val es) e2) = v)) :
    Calls Tryd.prog 44 #[.agg #[.bool false, .slice A n c, .int .i64 e1], .agg #[.bool false, .slice B m d, .int .i64 e2]] w fun e w' => e = .returned (.int .i64 v) ∧ Below w.heap.size w w' := by
  obtain ⟨s1, hs1⟩ : ∃ s, sgD false (D.val ds) = s := ⟨_, rfl⟩
  have hs2 : sgD false (D.val es) = 0 := by unfold sgD; rw [if_pos hU]
  have H0 := Lib.hid ((HN.start w false A n c ds e1 false B m d es e2 hA hB).below (below_drew _))
  have HS1 : Hid (∀ u, CellsN w w.heap.size false A n c ds e1 (w.heap.size + 1) false B m d es e2 u → Calls Tryd.prog 66 #[.agg #[.bool false, .slice A n c, .int .i64 e1]] u fun e w' => e = .returned (.int .i64 s1) ∧ CellsN w w.heap.size false A n c ds e1 (w.heap.size + 1) false B m d es e2 w') := fun u hu => by
    have h := hu.2.2.2.2.2.2.out
    refine (rsign_l s1 false A n c ds e1 u h.2.2.1 ba hs1).mono ?_
    rintro e w' ⟨rfl, hb⟩
    exact ⟨rfl, (h.below hb).cells⟩
  have HS2 : Hid (∀ u, CellsN w w.heap.size false A n c ds e1 (w.heap.size + 1) false B m d es e2 u → Calls Tryd.prog 66 #[.agg #[.bool false, .slice B m d, .int .i64 e2]] u fun e w' => e = .returned (.int .i64 0) ∧ CellsN w w.heap.size false A n c ds e1 (w.heap.size + 1) false B m d es e2 w') := fun u hu => by
    have h := hu.2.2.2.2.2.2.out
    refine (rsign_l 0 false B m d es e2 u h.2.2.2.1 bb hs2).mono ?_
    rintro e w' ⟨rfl, hb⟩
    exact ⟨rfl, (h.below hb).cells⟩
  have hv' := hv.out
  clear hA hB ba bb hs2 hv
  by_cases hV : D.val ds = 0
  · obtain rfl : s1 = 0 := by rw [← hs1, hV]; rfl
    obtain rfl : v = 0 := by
      rw [← hv', hV, hU, sz_zero, sz_zero, cmpZ_eq rfl]
    clear hs1 hv' hV hU
    go_enter Tryd.func44, Tryd.ntmps44
    go_wp2_with fail
    go_region_held3 (fun w' => w'.cell? ⟨w.heap.size, 0, none⟩ = some (.bool false) ∧ w'.cell? ⟨w.heap.size, 1, none⟩ = some (.slice A n c) ∧ w'.cell? ⟨w.heap.size, 2, none⟩ = some (.int .i64 e1) ∧ w'.cell? ⟨w.heap.size + 1, 0, none⟩ = some (.bool false) ∧ w'.cell? ⟨w.heap.size + 1, 1, none⟩ = some (.slice B m d) ∧ w'.cell? ⟨w.heap.size + 1, 2, none⟩ = some (.int .i64 e2) ∧ Hid (HN w w.heap.size false A n c ds e1 (w.heap.size + 1) false B m d es e2 w'))
      (first | (with_reducible exact H0.out.cells) | (with_reducible assumption))
      (first | (go_at_call 66; (with_reducible refine (HS1.out _ (by with_reducible assumption)).mono ?_); rintro e w1 ⟨rfl, hY⟩) | (go_at_call 66; (with_reducible refine (HS2.out _ (by with_reducible assumption)).mono ?_); rintro e w2 ⟨rfl, hZ⟩))
    have HF := Lib.hid hZ.2.2.2.2.2.2.out.2.2.2.2
    clear hY hZ HS1 HS2 H0
    go_wp2_with fail
    go_ret
    exact ⟨rfl, HF.out⟩
  · obtain rfl : s1 = 1 := by rw [← hs1]; unfold sgD; rw [if_neg hV]; rfl
    obtain rfl : v = 1 := by
      rw [← hv', hU, sz_zero, cmpZ_gt (sz_pos e1 hV)]
    clear hs1 hv' hV hU
    go_enter Tryd.func44, Tryd.ntmps44
    go_wp2_with fail
    go_region_held3 (fun w' => w'.cell? ⟨w.heap.size, 0, none⟩ = some (.bool false) ∧ w'.cell? ⟨w.heap.size, 1, none⟩ = some (.slice A n c) ∧ w'.cell? ⟨w.heap.size, 2, none⟩ = some (.int .i64 e1) ∧ w'.cell? ⟨w.heap.size + 1, 0, none⟩ = some (.bool false) ∧ w'.cell? ⟨w.heap.size + 1, 1, none⟩ = some (.slice B m d) ∧ w'.cell? ⟨w.heap.size + 1, 2, none⟩ = some (.int .i64 e2) ∧ Hid (HN w w.heap.size false A n c ds e1 (w.heap.size + 1) false B m d es e2 w'))
      (first | (with_reducible exact H0.out.cells) | (with_reducible assumption))
      (first | (go_at_call 66; (with_reducible refine (HS1.out _ (by with_reducible assumption)).mono ?_); rintro e w1 ⟨rfl, hY⟩) | (go_at_call 66; (with_reducible refine (HS2.out _ (by with_reducible assumption)).mono ?_); rintro e w2 ⟨rfl, hZ⟩))
    have HF := Lib.hid hZ.2.2.2.2.2.2.out.2.2.2.2
    clear hY hZ HS1 HS2 H0
    go_wp2_with fail
    go_ret
    exact ⟨rfl, HF.out⟩

/-- Of any two that aren't below 0. -/
theorem rncmp_all (v : Int) (A : Option Addr) (n c : Nat) (ds : List Nat) (e1 : Int) (B : Option Addr) (m d : Nat) (es : List Nat) (e2 : Int) (w : World) (hA : Dig w A n c ds) (hB : Dig w B m d es) (ba : D.Bare ds) (bb : D.Bare es) (hn : n ≤ 240) (hm : m ≤ 240)
    (h1 : -1073741824 ≤ e1) (h2 : e1 ≤ 1073741824) (h3 : -1073741824 ≤ e2) (h4 : e2 ≤ 1073741824) (hv : Hid (cmpZ (sz (D.val ds) e1) (sz (D.val es) e2) = v)) :
    Calls Tryd.prog 44 #[.agg #[.bool false, .slice A n c, .int .i64 e1], .agg #[.bool false, .slice B m d, .int .i64 e2]] w fun e w' => e = .returned (.int .i64 v) ∧ Below w.heap.size w w' := by
  by_cases hU : D.val es = 0
  · exact rncmp_nil v A n c ds e1 B m d es e2 w hA hB ba bb hU hv
  · exact rncmp_l v A n c ds e1 B m d es e2 w hA hB ba bb hn hm hU h1 h2 h3 h4 hv

/-- .. held against it. -/
theorem hold_cmp_all {w : World} {A : Option Addr} {n c : Nat} {ds : List Nat} {e0 : Int} (v : Int) (b : Nat) (hb : b ≤ 9218868437227405312) (hn : n ≤ 240) (ba : D.Bare ds) (h1 : -1073741824 ≤ e0) (h2 : e0 ≤ 1073741824) (hv : cmpZ (vX b) (sz (D.val ds) e0) = v)
    (A1 : Option Addr) (m1 c1 : Nat) (us : List Nat) (E1 : Int) (hE : (vO b).e = E1) (u : World) (hu : CellsB w A n c ds e0 u) (hm : m1 ≤ 4) (hP : Dig u A1 m1 c1 us ∧ D.Bare us ∧ D.val us = (vO b).V) :
    Calls Tryd.prog 44 #[.agg #[.bool false, .slice A1 m1 c1, .int .i64 E1], .agg #[.bool false, .slice A n c, .int .i64 e0]] u fun e w' => e = .returned (.int .i64 v) ∧ CellsB w A n c ds e0 w' := by
  have hf := vO_facts hb
  have h := hu.2.2.2.out
  subst hE
  refine (rncmp_all v A1 m1 c1 us (vO b).e A n c ds e0 u hP.1 h.2.1 hP.2.1 ba (by omega) hn (by omega) (by omega) h1 h2 (by rw [hP.2.2, hf.2.1]; exact hv)).mono ?_
  rintro e w' ⟨rfl, hb'⟩
  exact ⟨rfl, (h.below hb').cells⟩

set_option maxHeartbeats 2000000 in
theorem rbelow_all (X : Nat) (A : Option Addr) (n c : Nat) (ds : List Nat) (e0 : Int) (w : World) (hA : Dig w A n c ds) (ba : D.Bare ds) (hn : n ≤ 240) (h1 : -1073741824 ≤ e0) (h2 : e0 ≤ 1073741824) (hX : IsLow (sz (D.val ds) e0) X) :
    Calls Tryd.prog 21 #[.agg #[.bool false, .slice A n c, .int .i64 e0]] w fun e w' => e = .returned (.int .u64 (X : Int)) ∧ Below w.heap.size w w' := by
  have a1 := below1 w (.cells #[.bool false, .slice A n c, .int .i64 e0] 37)
  have H0 : HoldB w A n c ds e0 _ := ⟨Bd.new w 37 false A n c e0, hA.below a1, a1⟩
  have K0 := Lib.hid (H0.below (below_drew _)).cells
  obtain ⟨S, hS⟩ : ∃ S, sz (D.val ds) e0 = S := ⟨_, rfl⟩
  have HL : Hid (∀ u, CellsB w A n c ds e0 u → Calls Tryd.prog 43 #[] u fun e w' => ∃ (A1 : Option Addr) (m1 c1 : Nat) (us : List Nat), e = .returned (.agg #[.bool false, .slice A1 m1 c1, .int .i64 1024]) ∧ m1 ≤ 4 ∧ CellsB w A n c ds e0 w' ∧ Hid (Dig w' A1 m1 c1 us ∧ D.Bare us ∧ D.val us = (vO 9218868437227405312).V)) := fun u hu => by
    refine (limit_l u).mono ?_
    rintro e w' ⟨A1, m1, c1, us, rfl, k1, k2, k3, k4, k5⟩
    exact ⟨A1, m1, c1, us, rfl, k1, (hu.2.2.2.out.below k5).cells, k2, k3, by rw [k4]; unfold vO; rw [if_pos rfl]⟩
  have HC : Hid (∀ (v : Int) (b : Nat) (E1 : Int), b ≤ 9218868437227405312 → cmpZ (vX b) S = v → (vO b).e = E1 → ∀ (A1 : Option Addr) (m1 c1 : Nat) (us : List Nat) (u : World), CellsB w A n c ds e0 u → m1 ≤ 4 → (Dig u A1 m1 c1 us ∧ D.Bare us ∧ D.val us = (vO b).V) →
      Calls Tryd.prog 44 #[.agg #[.bool false, .slice A1 m1 c1, .int .i64 E1], .agg #[.bool false, .slice A n c, .int .i64 e0]] u fun e w' => e = .returned (.int .i64 v) ∧ CellsB w A n c ds e0 w') := fun v b E1 hb hv hE A1 m1 c1 us u hu hm hP =>
    hold_cmp_all v b hb hn ba h1 h2 (by rw [hS]; exact hv) A1 m1 c1 us E1 hE u hu hm hP
  have HE : Hid ((vO 9218868437227405312).e = 1024) := by show (vO 9218868437227405312).e = 1024; unfold vO; rw [if_pos rfl]
  rw [hS] at hX
  have HX := Lib.hid hX
  obtain ⟨v0, hv0⟩ : ∃ v, cmpZ (vX 9218868437227405312) S = v := ⟨_, rfl⟩
  have Hv0 := Lib.hid hv0
  have hcase : (X = 9218868437227405312 ∧ v0 ≤ 0) ∨ (X < 9218868437227405312 ∧ v0 = 1 ∧ S < vX 9218868437227405312) := by
    rcases Nat.lt_or_ge X 9218868437227405312 with h | h
    · have k1 := hX.2.2 h
      have k2 := vX_le (X := X + 1) (Y := 9218868437227405312) h (Nat.le_refl _)
      exact Or.inr ⟨h, by rw [← hv0, cmpZ_gt (by omega)], by omega⟩
    · have k0 : X = 9218868437227405312 := by have := hX.1; omega
      have k1 := hX.2.1
      rw [k0] at k1
      refine Or.inl ⟨k0, ?_⟩
      rw [← hv0]
      rcases Nat.lt_or_eq_of_le k1 with k2 | k2
      · rw [cmpZ_lt k2]; decide
      · rw [cmpZ_eq k2]; decide
  clear hA ba a1 H0 hX hv0 hS h1 h2 hn
  go_enter Tryd.func21, Tryd.ntmps21
  obtain ⟨bb, hbb⟩ : ∃ bb, decide (v0 ≤ 0) = bb := ⟨_, rfl⟩
  go_wp2_with fail
  go_cut [9] from 6 (fun s9 wx => s9 = .bool bb ∧ Hid (HoldB w A n c ds e0 wx))
  case first =>
    go_region_held3 (fun w' => w'.cell? ⟨w.heap.size, 0, none⟩ = some (.bool false) ∧ w'.cell? ⟨w.heap.size, 1, none⟩ = some (.slice A n c) ∧ w'.cell? ⟨w.heap.size, 2, none⟩ = some (.int .i64 e0) ∧ Hid (HoldB w A n c ds e0 w'))
      (first | (with_reducible exact K0.out) | (with_reducible assumption))
      (first | (go_at_call 43; (with_reducible refine (HL.out _ (by first | (with_reducible exact K0.out) | (with_reducible assumption))).mono ?_); rintro e w1 ⟨A1, m1, c1, us, rfl, hm1, hY, hP⟩) | (go_at_call 44; (with_reducible refine (HC.out v0 9218868437227405312 1024 (Nat.le_refl _) Hv0.out HE.out A1 m1 c1 us _ (by with_reducible assumption) hm1 hP.out).mono ?_); rintro e w2 ⟨rfl, hZ⟩))
    have K2 := Lib.hid hZ.2.2.2.out
    clear hY hZ hP HL HE K0
    go_wp2_with fail
    go_meet
    exact ⟨by rw [← hbb], K2⟩
  case rest =>
  obtain ⟨w2, rfl⟩ : ∃ w2, w2 = wc := ⟨_, rfl⟩
  obtain ⟨rfl, K2⟩ := hcut
  clear HL Hv0 HE K0
  rcases hcase with ⟨hX0, hv0⟩ | ⟨hX0, hv1, hS0⟩
  · obtain rfl : bb = true := by rw [← hbb]; exact decide_eq_true hv0
    have Hfin := Lib.hid K2.out.2.2
    subst hX0
    clear K2 HC HX hv0 hbb
    go_wp2
    go_ret
    exact ⟨rfl, Hfin.out⟩
  · obtain rfl : bb = false := by rw [← hbb]; exact decide_eq_false (by omega)
    have hS1 := Lib.hid hS0
    clear hS0 hv1 hbb
    go_wp2
    go_loopw [3, 4] (fun l h wr => ∃ lo hi : Nat, l = .int .u64 (lo : Int) ∧ h = .int .u64 (hi : Int) ∧ lo < hi ∧ hi ≤ 9218868437227405312 ∧ Hid (vX lo ≤ S ∧ S < vX hi) ∧ Hid (HoldB w A n c ds e0 wr)) (fun l h _ => (intOf h).toNat - (intOf l).toNat)
    case atStart => exact ⟨0, 9218868437227405312, rfl, rfl, by decide, Nat.le_refl _, ⟨by show vX 0 ≤ S; rw [show vX 0 = 0 from by unfold vX; rw [show fm 0 = 0 from by decide, Nat.zero_mul]]; exact Nat.zero_le _, hS1.out⟩, K2⟩
    case round =>
      obtain ⟨lo, hi, rfl, rfl, hlh, hhi, HV, HB⟩ := hrel
      obtain ⟨dd, hdd⟩ : ∃ dd, hi - lo = dd := ⟨_, rfl⟩
      have e1 : (hi : Int) - (lo : Int) = (dd : Int) := by omega
      have hd0 : 1 ≤ dd := by omega
      by_cases hd1 : 1 < dd
      · obtain ⟨h2, hh2⟩ : ∃ h2, dd / 2 = h2 := ⟨_, rfl⟩
        have e2 : (dd : Int) / 2 = (h2 : Int) := by omega
        obtain ⟨mid, hmid⟩ : ∃ mid, lo + h2 = mid := ⟨_, rfl⟩
        have e3 : (lo : Int) + (h2 : Int) = (mid : Int) := by omega
        have b1 : decide ((1 : Int) < (dd : Int)) = true := decide_eq_true (by omega)
        have hm1 : lo < mid ∧ mid < hi := by omega
        obtain ⟨hm1, hm2⟩ := hm1
        have hmb : mid ≤ 9218868437227405312 := by omega
        obtain ⟨E1, hE1⟩ : ∃ E, (vO mid).e = E := ⟨_, rfl⟩
        have HE1 := Lib.hid hE1
        obtain ⟨v, hv⟩ : ∃ v, cmpZ (vX mid) S = v := ⟨_, rfl⟩
        have Hv := Lib.hid hv
        have KB := Lib.hid (HB.out.below (below_drew _)).cells
        have HVal : Hid (∀ u, CellsB w A n c ds e0 u → Calls Tryd.prog 45 #[.int .u64 (mid : Int)] u fun e w' => ∃ (A1 : Option Addr) (m1 c1 : Nat) (us : List Nat), e = .returned (.agg #[.bool false, .slice A1 m1 c1, .int .i64 E1]) ∧ m1 ≤ 4 ∧ CellsB w A n c ds e0 w' ∧ Hid (Dig w' A1 m1 c1 us ∧ D.Bare us ∧ D.val us = (vO mid).V)) := fun u hu => by
          have := hold_value mid hmb u hu
          rw [hE1] at this
          exact this
        have hvc : (v ≤ 0 ∧ vX mid ≤ S) ∨ (v = 1 ∧ S < vX mid) := by
          rw [← hv]
          rcases Nat.lt_trichotomy (vX mid) S with k | k | k
          · rw [cmpZ_lt k]; exact Or.inl ⟨by decide, by omega⟩
          · rw [cmpZ_eq k]; exact Or.inl ⟨by decide, by omega⟩
          · rw [cmpZ_gt k]; exact Or.inr ⟨rfl, k⟩
        have Hvc := Lib.hid hvc
        clear hv hE1 hdd hh2 hmid hvc
        go_wp2_with fail
        go_region_held3 (fun w' => w'.cell? ⟨w.heap.size, 0, none⟩ = some (.bool false) ∧ w'.cell? ⟨w.heap.size, 1, none⟩ = some (.slice A n c) ∧ w'.cell? ⟨w.heap.size, 2, none⟩ = some (.int .i64 e0) ∧ Hid (HoldB w A n c ds e0 w'))
          (first | (with_reducible exact KB.out) | (with_reducible assumption))
          (first | (go_at_call 45; (with_reducible refine (HVal.out _ (by first | (with_reducible exact KB.out) | (with_reducible assumption))).mono ?_); rintro e w5 ⟨A5, m5, c5, us5, rfl, hm5, hY, hP⟩) | (go_at_call 44; (with_reducible refine (HC.out v mid E1 hmb Hv.out HE1.out A5 m5 c5 us5 _ (by with_reducible assumption) hm5 hP.out).mono ?_); rintro e w6 ⟨rfl, hZ⟩))
        have K6 := Lib.hid hZ.2.2.2.out
        rcases Hvc.out with ⟨k1, k2⟩ | ⟨k1, k2⟩
        · have HV2 : Hid (vX mid ≤ S ∧ S < vX hi) := ⟨k2, HV.out.2⟩
          clear hY hZ hP KB HB HV HVal Hvc k2 Hv HE1
          go_wp2
          go_roundw
          case rel => exact ⟨mid, hi, rfl, rfl, hm2, hhi, HV2, K6⟩
          case measure => simp [intOf]; omega
        · have HV2 : Hid (vX lo ≤ S ∧ S < vX mid) := ⟨HV.out.1, k2⟩
          subst k1
          clear hY hZ hP KB HB HV HVal Hvc k2 Hv HE1
          go_wp2
          go_roundw
          case rel => exact ⟨lo, mid, rfl, rfl, hm1, hmb, HV2, K6⟩
          case measure => simp [intOf]; omega
      · obtain rfl : dd = 1 := by omega
        obtain rfl : hi = lo + 1 := by omega
        have hlow : IsLow S lo := ⟨by omega, HV.out.1, fun _ => HV.out.2⟩
        obtain rfl : X = lo := HX.out.uniq hlow
        have Hfin := Lib.hid HB.out.2.2
        clear hlow HV HB HX K2 HC hS1
        go_wp2
        go_ret
        exact ⟨rfl, Hfin.out⟩
end Go.Proofs.YtgacafdkhailmaaDoor

/- The document's breakpoints: planimeterref08.Same, Break (written by law_rbrk.py). -/
namespace Go.Proofs.YtgacafdkhailmaaDoor
open Go.RowKit

theorem cmpZ_zero {x y : Nat} : (cmpZ x y == 0) = decide (x = y) := by
  rcases Nat.lt_trichotomy x y with h | h | h
  · rw [cmpZ_lt h, decide_eq_false (by omega)]; rfl
  · rw [cmpZ_eq h, decide_eq_true h]; rfl
  · rw [cmpZ_gt h, decide_eq_false (by omega)]; rfl
theorem rsame8_l (t : Bool) (A : Option Addr) (n c : Nat) (ds : List Nat) (e1 : Int) (B : Option Addr) (m d : Nat) (es : List Nat) (e2 : Int) (w : World) (hA : Dig w A n c ds) (hB : Dig w B m d es) (ba : D.Bare ds) (bb : D.Bare es) (hn : n ≤ 240) (hm : m ≤ 240)
    (h1 : -1073741824 ≤ e1) (h2 : e1 ≤ 1073741824) (h3 : -1073741824 ≤ e2) (h4 : e2 ≤ 1073741824) (ht : decide (sz (D.val ds) e1 = sz (D.val es) e2) = t) :
    Calls Tryd.prog 22 #[.agg #[.bool false, .slice A n c, .int .i64 e1], .agg #[.bool false, .slice B m d, .int .i64 e2]] w fun e w' => e = .returned (.bool t) ∧ Below w.heap.size w w' := by
  have a2 : Below w.heap.size w ((w.alloc (.cells #[.bool false, .slice A n c, .int .i64 e1] 37)).alloc (.cells #[.bool false, .slice B m d, .int .i64 e2] 37)) := ((Below.refl _ _).alloc (Nat.le_refl _) _).alloc (by simp) _
  obtain ⟨v, hv⟩ : ∃ v, cmpZ (sz (D.val ds) e1) (sz (D.val es) e2) = v := ⟨_, rfl⟩
  have H1 := Lib.hid (rncmp_all v A n c ds e1 B m d es e2 _ (hA.below a2) (hB.below a2) ba bb hn hm h1 h2 h3 h4 hv)
  have Ht : Hid ((v == 0) = t) := by rw [← ht, ← hv]; exact cmpZ_zero
  have HS := Lib.hid a2
  clear a2 hA hB ba bb ht hv
  go_enter Tryd.func22, Tryd.ntmps22
  go_wp2_with fail
  refine H1.out.mono ?_
  rintro e w1 ⟨rfl, hb⟩
  have Hfin := Lib.hid (HS.out.trans (hb.mono HS.out.size))
  clear hb H1 HS
  go_wp2
  go_ret
  exact ⟨congrArg (fun v => Ending.returned (.bool v)) Ht.out, Hfin.out⟩

theorem rbrk_nil (g : Bool) (A : Option Addr) (c : Nat) (e0 : Int) (w : World) :
    Calls Tryd.prog 20 #[.agg #[.bool g, .slice A 0 c, .int .i64 e0]] w fun e w' => e = .returned (.bool true) ∧ Below w.heap.size w w' := by
  have Hfin := Lib.hid (below1 w (.cells #[.bool false, .slice A 0 c, .int .i64 e0] 37))
  go_enter Tryd.func20, Tryd.ntmps20
  go_wp2
  go_ret
  exact ⟨rfl, Hfin.out⟩

set_option maxHeartbeats 2000000 in
theorem rbrk_l (v : Bool) (X : Nat) (g : Bool) (A : Option Addr) (n c : Nat) (ds : List Nat) (e0 : Int) (w : World) (hA : Dig w A n c ds) (ba : D.Bare ds) (hn : n ≤ 240) (hV : D.val ds ≠ 0) (h1 : -1073741824 ≤ e0) (h2 : e0 ≤ 1073741824) (hX : IsLow (sz (D.val ds) e0) X)
    (hv : v = true ↔ (X = 9218868437227405312 ∧ sz (D.val ds) e0 = vX 9218868437227405312) ∨ (X < 9218868437227405312 ∧ (sz (D.val ds) e0 = vX X ∨ 2 * sz (D.val ds) e0 = vX X + vX (X + 1)))) :
    Calls Tryd.prog 20 #[.agg #[.bool g, .slice A n c, .int .i64 e0]] w fun e w' => e = .returned (.bool v) ∧ Below w.heap.size w w' := by
  have a1 := below1 w (.cells #[.bool false, .slice A n c, .int .i64 e0] 37)
  have H0 : HoldB w A n c ds e0 _ := ⟨Bd.new w 37 false A n c e0, hA.below a1, a1⟩
  have K0 := Lib.hid H0
  have HBe := Lib.hid (rbelow_all X A n c ds e0 _ (hA.below a1) ba hn h1 h2 hX)
  have hn0 : n ≠ 0 := fun h => hV ((dnil_iff hA ba).1 h)
  have q0 : ((n : Int) == 0) = false := beq_no (by omega)
  have x0 := H0.1.c0
  have x1 := H0.1.c1
  have x2 := H0.1.c2
  have HSm : Hid (∀ (t : Bool) (V : Nat) (E : Int), -1073741824 ≤ E → E ≤ 1073741824 → decide (sz V E = sz (D.val ds) e0) = t → ∀ u A1 m1 c1 us, CellsB w A n c ds e0 u → (Dig u A1 m1 c1 us ∧ D.Bare us ∧ D.val us = V ∧ m1 ≤ 140) →
      Calls Tryd.prog 22 #[.agg #[.bool false, .slice A1 m1 c1, .int .i64 E], .agg #[.bool false, .slice A n c, .int .i64 e0]] u fun e w' => e = .returned (.bool t) ∧ CellsB w A n c ds e0 w') := fun t V E q1 q2 ht u A1 m1 c1 us hu hP => by
    have h := hu.2.2.2.out
    refine (rsame8_l t A1 m1 c1 us E A n c ds e0 u hP.1 h.2.1 hP.2.1 ba (by omega) hn q1 q2 h1 h2 (by rw [hP.2.2.1]; exact ht)).mono ?_
    rintro e w' ⟨rfl, hb'⟩
    exact ⟨rfl, (h.below hb').cells⟩
  obtain ⟨S, hS⟩ : ∃ S, sz (D.val ds) e0 = S := ⟨_, rfl⟩
  rw [hS] at HSm hX hv
  by_cases hI : X = 9218868437227405312
  · have ht : decide (vX 9218868437227405312 = S) = v := by
      cases v with
      | true =>
        refine decide_eq_true ?_
        rcases hv.1 rfl with ⟨_, h⟩ | ⟨h, _⟩
        · exact h.symm
        · omega
      | false =>
        refine decide_eq_false (fun h => ?_)
        cases hv.2 (Or.inl ⟨hI, h.symm⟩)
    have HL : Hid (∀ u, CellsB w A n c ds e0 u → Calls Tryd.prog 43 #[] u fun e w' => ∃ (A1 : Option Addr) (m1 c1 : Nat) (us : List Nat), e = .returned (.agg #[.bool false, .slice A1 m1 c1, .int .i64 1024]) ∧ CellsB w A n c ds e0 w' ∧ Hid (Dig w' A1 m1 c1 us ∧ D.Bare us ∧ D.val us = 1 ∧ m1 ≤ 140)) := fun u hu => by
      refine (limit_l u).mono ?_
      rintro e w' ⟨A1, m1, c1, us, rfl, k1, k2, k3, k4, k5⟩
      exact ⟨A1, m1, c1, us, rfl, (hu.2.2.2.out.below k5).cells, k2, k3, k4, by omega⟩
    have HC := Lib.hid (HSm.out v 1 1024 (by decide) (by decide) (by rw [nsz_inf rfl]; exact ht))
    subst hI
    clear a1 H0 hA ba hn hV hX hv hS ht HSm hn0
    go_enter Tryd.func20, Tryd.ntmps20
    go_wp2_with fail
    refine HBe.out.mono ?_
    rintro e w1 ⟨rfl, hb1⟩
    have K1 := Lib.hid ((K0.out.below hb1).below (below_drew _)).cells
    clear hb1 K0 HBe x0 x1 x2
    go_wp2_with fail
    go_region_held3 (fun w' => w'.cell? ⟨w.heap.size, 0, none⟩ = some (.bool false) ∧ w'.cell? ⟨w.heap.size, 1, none⟩ = some (.slice A n c) ∧ w'.cell? ⟨w.heap.size, 2, none⟩ = some (.int .i64 e0) ∧ Hid (HoldB w A n c ds e0 w'))
      (first | (with_reducible exact K1.out) | (with_reducible assumption))
      (first | (go_at_call 43; (with_reducible refine (HL.out _ (by first | (with_reducible exact K1.out) | (with_reducible assumption))).mono ?_); rintro e w2 ⟨A2, m2, c2, us, rfl, hY, hP⟩) | (go_at_call 22; (with_reducible refine (HC.out _ A2 m2 c2 us (by with_reducible assumption) hP.out).mono ?_); rintro e w3 ⟨rfl, hZ⟩))
    have Hfin := Lib.hid hZ.2.2.2.out.2.2
    clear hY hZ hP HL HC K1
    go_wp2_with fail
    go_ret
    exact ⟨rfl, Hfin.out⟩
  · have hXl : X < 9218868437227405312 := by have := hX.1; omega
    have q1 : ((X : Int) == 9218868437227405312) = false := beq_no (by omega)
    obtain ⟨f1, f2, f3, f4, f5, f6⟩ := vO_facts (b := X) (by omega)
    have fO_v : vO X = fO X := by unfold vO; rw [if_neg hI]
    rw [fO_v] at f1 f2 f3 f4
    obtain ⟨V2, E2, i1, i2, i3, i4, i5⟩ := mid_spec hXl
    obtain ⟨t1, ht1⟩ : ∃ t, decide (vX X = S) = t := ⟨_, rfl⟩
    obtain ⟨t2, ht2⟩ : ∃ t, decide (sz V2 E2 = S) = t := ⟨_, rfl⟩
    have hv2 : v = (t1 || t2) := by
      rw [← ht1, ← ht2]
      cases v with
      | true =>
        rcases hv.1 rfl with ⟨h, _⟩ | ⟨_, h | h⟩
        · exact absurd h hI
        · rw [decide_eq_true h.symm]; rfl
        · rw [decide_eq_true (show sz V2 E2 = S by omega), Bool.or_true]
      | false =>
        have k1 : ¬ vX X = S := fun h => by cases hv.2 (Or.inr ⟨hXl, Or.inl h.symm⟩)
        have k2 : ¬ sz V2 E2 = S := fun h => by cases hv.2 (Or.inr ⟨hXl, Or.inr (by omega)⟩)
        rw [decide_eq_false k1, decide_eq_false k2]; rfl
    obtain ⟨VX, hVX⟩ : ∃ V, (fO X).V = V := ⟨_, rfl⟩
    obtain ⟨EX, hEX⟩ : ∃ E, (fO X).e = E := ⟨_, rfl⟩
    rw [hVX, hEX] at f2
    rw [hEX] at f3 f4
    have HW : Hid (∀ u, CellsB w A n c ds e0 u → Calls Tryd.prog 23 #[.int .u64 (X : Int)] u fun e w' => ∃ (A1 : Option Addr) (m1 c1 : Nat) (us : List Nat), e = .returned (.agg #[.bool false, .slice A1 m1 c1, .int .i64 EX]) ∧ CellsB w A n c ds e0 w' ∧ Hid (Dig w' A1 m1 c1 us ∧ D.Bare us ∧ D.val us = VX ∧ m1 ≤ 140)) := fun u hu => by
      refine (worth_any X (by omega) u).mono ?_
      rintro e w' ⟨A1, m1, c1, us, he, k1, k2, k3, k4, k5⟩
      rw [f1, hEX] at he
      rw [hVX] at k4
      exact ⟨A1, m1, c1, us, he, (hu.2.2.2.out.below k5).cells, k2, k3, k4, by omega⟩
    have HM : Hid (∀ u, CellsB w A n c ds e0 u → Calls Tryd.prog 34 #[.int .u64 (X : Int)] u fun e w' => ∃ (A1 : Option Addr) (m1 c1 : Nat) (us : List Nat), e = .returned (.agg #[.bool false, .slice A1 m1 c1, .int .i64 E2]) ∧ CellsB w A n c ds e0 w' ∧ Hid (Dig w' A1 m1 c1 us ∧ D.Bare us ∧ D.val us = V2 ∧ m1 ≤ 140)) := fun u hu => by
      refine (i5 u).mono ?_
      rintro e w' ⟨A1, m1, c1, us, rfl, k1, k2, k3, k4, k5⟩
      exact ⟨A1, m1, c1, us, rfl, (hu.2.2.2.out.below k5).cells, k2, k3, k4, k1⟩
    have HC1 := Lib.hid (HSm.out t1 VX EX (by omega) (by omega) (by rw [f2]; exact ht1))
    have HC2 := Lib.hid (HSm.out t2 V2 E2 i2 i3 ht2)
    subst hv2
    clear a1 H0 hA ba hn hV hX hv hS HSm hn0 f1 f2 f3 f4 f5 f6 fO_v i1 i2 i3 i4 i5 ht1 ht2 hVX hEX hI
    cases t1 with
    | false =>
      go_enter Tryd.func20, Tryd.ntmps20
      go_wp2_with fail
      refine HBe.out.mono ?_
      rintro e w1 ⟨rfl, hb1⟩
      have K1 := Lib.hid ((K0.out.below hb1).below (below_drew _)).cells
      clear hb1 K0 HBe x0 x1 x2
      go_wp2_with fail
      go_region_held3 (fun w' => w'.cell? ⟨w.heap.size, 0, none⟩ = some (.bool false) ∧ w'.cell? ⟨w.heap.size, 1, none⟩ = some (.slice A n c) ∧ w'.cell? ⟨w.heap.size, 2, none⟩ = some (.int .i64 e0) ∧ Hid (HoldB w A n c ds e0 w'))
        (first | (with_reducible exact K1.out) | (with_reducible assumption))
        (first
          | (go_at_call 23; (with_reducible refine (HW.out _ (by first | (with_reducible exact K1.out) | (with_reducible assumption))).mono ?_); rintro e w2 ⟨A2, m2, c2, us, rfl, hY2, hP2⟩)
          | (go_at_call 22; (with_reducible refine (HC1.out _ A2 m2 c2 us (by with_reducible assumption) hP2.out).mono ?_); rintro e w3 ⟨rfl, hY3⟩)
          | (go_at_call 34; (with_reducible refine (HM.out _ (by with_reducible assumption)).mono ?_); rintro e w4 ⟨A4, m4, c4, ts, rfl, hY4, hP4⟩)
          | (go_at_call 22; (with_reducible refine (HC2.out _ A4 m4 c4 ts (by with_reducible assumption) hP4.out).mono ?_); rintro e w5 ⟨rfl, hY5⟩))
      have Hfin := Lib.hid hY5.2.2.2.out.2.2
      clear hY2 hP2 hY3 hY4 hP4 hY5 HW HM HC1 HC2 K1
      go_wp2_with fail
      go_ret
      exact ⟨by cases t2 <;> rfl, Hfin.out⟩
    | true =>
      rw [Bool.true_or]
      go_enter Tryd.func20, Tryd.ntmps20
      go_wp2_with fail
      refine HBe.out.mono ?_
      rintro e w1 ⟨rfl, hb1⟩
      have K1 := Lib.hid ((K0.out.below hb1).below (below_drew _)).cells
      clear hb1 K0 HBe x0 x1 x2 HM HC2
      go_wp2_with fail
      refine wp_region_noPanic ?_
      refine wp_region_held_drew (S := fun w' => w'.cell? ⟨w.heap.size, 0, none⟩ = some (.bool false) ∧ w'.cell? ⟨w.heap.size, 1, none⟩ = some (.slice A n c) ∧ w'.cell? ⟨w.heap.size, 2, none⟩ = some (.int .i64 e0) ∧ Hid (HoldB w A n c ds e0 w')) (by kernel_rfl) K1.out (fun hHeld => ?_)
      refine wpAnyH_take (i := 0) (v := ?_) rfl (by kernel_rfl) (by kernel_rfl) (by kernel_rfl) (fun _ _ _ h => h) (Or.inl ⟨by rfl, ?_⟩) hHeld ?_
      rotate_left
      · intro w' hSw
        (try dsimp only at hSw)
        go_simp
        all_goals (with_reducible rfl)
      simp only [List.getElem_toArray, List.getElem_cons_zero, Act.put, List.setIfInBounds_toArray, List.set_cons_zero, List.set_cons_succ]
      refine wpAnyH_take (i := 2) (v := ?_) rfl (by kernel_rfl) (by kernel_rfl) (by kernel_rfl) (fun _ _ _ h => h) (Or.inl ⟨by rfl, ?_⟩) hHeld ?_
      rotate_left
      · intro w' hSw
        (try dsimp only at hSw)
        go_simp
        all_goals (with_reducible rfl)
      simp only [List.getElem_toArray, List.getElem_cons_succ, List.getElem_cons_zero, Act.put, List.setIfInBounds_toArray, List.set_cons_zero, List.set_cons_succ]
      refine wpAnyH_ready (rs := [1]) (by kernel_rfl) (by simp) ?_
      refine AllReadyH.cons rfl (fun K' hK' => ?_) AllReadyH.nil
      go_simp
      refine (HW.out _ K1.out).mono ?_
      rintro e w2 ⟨A2, m2, c2, us, rfl, hY2, hP2⟩
      refine hK'.out _ _ ?_ (fun hHeld => ?_)
      · exact hY2
      clear hK' K'
      
      refine wpAnyH_ready (rs := [3]) (by kernel_rfl) (by simp) ?_
      refine AllReadyH.cons rfl (fun K' hK' => ?_) AllReadyH.nil
      go_simp
      refine (HC1.out _ A2 m2 c2 us hY2 hP2.out).mono ?_
      rintro e w3 ⟨rfl, hY3⟩
      refine hK'.out _ _ ?_ (fun hHeld => ?_)
      · exact hY3
      clear hK' K'
      
      refine wpAnyH_take (i := 4) (v := ?_) rfl (by kernel_rfl) (by kernel_rfl) (by kernel_rfl) (fun _ _ _ h => h) (Or.inl ⟨by rfl, ?_⟩) hHeld ?_
      rotate_left
      · intro w' hSw
        (try dsimp only at hSw)
        go_simp
        all_goals (with_reducible rfl)
      simp only [List.getElem_toArray, List.getElem_cons_succ, List.getElem_cons_zero, Act.put, List.setIfInBounds_toArray, List.set_cons_zero, List.set_cons_succ]
      refine wpAnyH_take (i := 5) (v := undef) rfl (by kernel_rfl) (by kernel_rfl) (by kernel_rfl) (fun _ _ _ h => h) (Or.inr ⟨by rfl, rfl⟩) hHeld ?_
      simp only [List.getElem_toArray, List.getElem_cons_succ, List.getElem_cons_zero, Act.put, List.setIfInBounds_toArray, List.set_cons_zero, List.set_cons_succ]
      refine wpAnyH_take (i := 6) (v := undef) rfl (by kernel_rfl) (by kernel_rfl) (by kernel_rfl) (fun _ _ _ h => h) (Or.inr ⟨by rfl, rfl⟩) hHeld ?_
      simp only [List.getElem_toArray, List.getElem_cons_succ, List.getElem_cons_zero, Act.put, List.setIfInBounds_toArray, List.set_cons_zero, List.set_cons_succ]
      refine wpAnyH_take (i := 7) (v := undef) rfl (by kernel_rfl) (by kernel_rfl) (by kernel_rfl) (fun _ _ _ h => h) (Or.inr ⟨by rfl, rfl⟩) hHeld ?_
      simp only [List.getElem_toArray, List.getElem_cons_succ, List.getElem_cons_zero, Act.put, List.setIfInBounds_toArray, List.set_cons_zero, List.set_cons_succ]
      refine wpAnyH_take (i := 8) (v := undef) rfl (by kernel_rfl) (by kernel_rfl) (by kernel_rfl) (fun _ _ _ h => h) (Or.inr ⟨by rfl, rfl⟩) hHeld ?_
      simp only [List.getElem_toArray, List.getElem_cons_succ, List.getElem_cons_zero, Act.put, List.setIfInBounds_toArray, List.set_cons_zero, List.set_cons_succ]
      refine wpAnyH_take (i := 9) (v := ?_) rfl (by kernel_rfl) (by kernel_rfl) (by kernel_rfl) (fun _ _ _ h => h) (Or.inl ⟨by rfl, ?_⟩) hHeld ?_
      rotate_left
      · intro w' hSw
        (try dsimp only at hSw)
        go_simp
        all_goals (with_reducible rfl)
      simp only [List.getElem_toArray, List.getElem_cons_succ, List.getElem_cons_zero, Act.put, List.setIfInBounds_toArray, List.set_cons_zero, List.set_cons_succ]
      refine wpAnyH_take (i := 10) (v := ?_) rfl (by kernel_rfl) (by kernel_rfl) (by kernel_rfl) (fun _ _ _ h => h) (Or.inl ⟨by rfl, ?_⟩) hHeld ?_
      rotate_left
      · intro w' hSw
        (try dsimp only at hSw)
        go_simp
        all_goals (with_reducible rfl)
      simp only [List.getElem_toArray, List.getElem_cons_succ, List.getElem_cons_zero, Act.put, List.setIfInBounds_toArray, List.set_cons_zero, List.set_cons_succ]
      refine wpAnyH_done (by kernel_rfl) ?_ _
      refine NoPanic.normal ?_
      have Hfin := Lib.hid hY3.2.2.2.out.2.2
      clear hY2 hP2 hY3 HW HC1 K1 hHeld
      go_wp2
      go_ret
      exact ⟨rfl, Hfin.out⟩
end Go.Proofs.YtgacafdkhailmaaDoor

/- The walk of NextBreaks. -/
namespace Go.Proofs.YtgacafdkhailmaaDoor
open Go.RowKit

/-- While it is walked: the dyad in its box, the document's number in its block. -/
def HoldY (w : World) (g : Bool) (A : Option Addr) (n c : Nat) (xs : List Nat) (e0 : Int) (p : Nat) (k : Bool) (B : Option Addr) (m d : Nat) (ds : List Nat) (e1 : Int) (u : World) : Prop :=
  Bd u w.heap.size 41 g A n c e0 ∧ Lim u A n c xs ∧ Tab u ∧ Bd u p 37 k B m d e1 ∧ Dig u B m d ds ∧ w.heap.size < p ∧ Below w.heap.size w u
theorem HoldY.below {w : World} {g : Bool} {A : Option Addr} {n c : Nat} {xs : List Nat} {e0 : Int} {p : Nat} {k : Bool} {B : Option Addr} {m d : Nat} {ds : List Nat} {e1 : Int} {u u' : World} (h : HoldY w g A n c xs e0 p k B m d ds e1 u) (hb : Below u.heap.size u u') : HoldY w g A n c xs e0 p k B m d ds e1 u' :=
  ⟨h.1.below hb, h.2.1.below hb, h.2.2.1.below hb, h.2.2.2.1.below hb, h.2.2.2.2.1.below hb, h.2.2.2.2.2.1, h.2.2.2.2.2.2.trans (hb.mono h.2.2.2.2.2.2.size)⟩
/-- The number alone, its sign struck. -/
def HoldZ (w : World) (p : Nat) (B : Option Addr) (m d : Nat) (ds : List Nat) (e1 : Int) (u : World) : Prop :=
  Bd u p 37 false B m d e1 ∧ Dig u B m d ds ∧ Below w.heap.size w u
abbrev CellsZ (w : World) (p : Nat) (B : Option Addr) (m d : Nat) (ds : List Nat) (e1 : Int) (w' : World) : Prop :=
  w'.cell? ⟨p, 0, none⟩ = some (.bool false) ∧ w'.cell? ⟨p, 1, none⟩ = some (.slice B m d) ∧ w'.cell? ⟨p, 2, none⟩ = some (.int .i64 e1) ∧ Hid (HoldZ w p B m d ds e1 w')
theorem HoldZ.below {w : World} {p : Nat} {B : Option Addr} {m d : Nat} {ds : List Nat} {e1 : Int} {u u' : World} (h : HoldZ w p B m d ds e1 u) (hb : Below u.heap.size u u') : HoldZ w p B m d ds e1 u' := ⟨h.1.below hb, h.2.1.below hb, h.2.2.trans (hb.mono h.2.2.size)⟩
theorem HoldZ.cells {w : World} {p : Nat} {B : Option Addr} {m d : Nat} {ds : List Nat} {e1 : Int} {u : World} (h : HoldZ w p B m d ds e1 u) : CellsZ w p B m d ds e1 u := ⟨h.1.c0, h.1.c1, h.1.c2, h⟩
theorem HoldY.strike {w : World} {g : Bool} {A : Option Addr} {n c : Nat} {xs : List Nat} {e0 : Int} {p : Nat} {k : Bool} {B : Option Addr} {m d : Nat} {ds : List Nat} {e1 : Int} {u : World} (h : HoldY w g A n c xs e0 p k B m d ds e1 u) : HoldZ w p B m d ds e1 (u.setCell ⟨p, 0, none⟩ (.bool false)) :=
  ⟨h.2.2.2.1.neg_ false, h.2.2.2.1.neg_dig h.2.2.2.2.1 _, h.2.2.2.2.2.2.setCell (p := ⟨p, 0, none⟩) (Nat.le_of_lt h.2.2.2.2.2.1) _⟩

/-- What comes of a dyad, by the document's number. -/
theorem breaks_cases {g : Bool} {V : Nat} {e0 : Int} {d : Dy} (hd : nO g V e0 = d) :
    ((d.e < -1073741824 ∨ 1073741824 < d.e) ∧ mk g V e0 = none) ∨
    (-1073741824 ≤ d.e ∧ d.e ≤ 1073741824 ∧ d.V = 0 ∧ btwO (mk g V e0) = (0, 0, true) ∧ brkO (mk g V e0) = true) ∨
    (-1073741824 ≤ d.e ∧ d.e ≤ 1073741824 ∧ d.V ≠ 0 ∧ ∃ (X Y : Nat) (v : Bool), IsLow (sz d.V d.e) X ∧ X ≤ 9218868437227405312 ∧ btwO (mk g V e0) = (X, Y, true) ∧ brkO (mk g V e0) = v ∧
      (v = true ↔ (X = 9218868437227405312 ∧ sz d.V d.e = vX 9218868437227405312) ∨ (X < 9218868437227405312 ∧ (sz d.V d.e = vX X ∨ 2 * sz d.V d.e = vX X + vX (X + 1)))) ∧
      ((X = 9218868437227405312 ∧ Y = X) ∨ (X < 9218868437227405312 ∧ sz d.V d.e = vX X ∧ Y = X) ∨ (X < 9218868437227405312 ∧ sz d.V d.e ≠ vX X ∧ Y = X + 1))) := by
  have hodd : Odd d := by rw [← hd]; exact nO_odd g V e0
  have hz : d.V = 0 → d = ⟨false, 0, 0⟩ := fun h => by
    rcases hodd with ⟨m, hm⟩ | h'
    · omega
    · exact h'
  rw [mk_nO, hd]
  by_cases hr : d.e < -1073741824 ∨ 1073741824 < d.e
  · refine Or.inl ⟨hr, ?_⟩
    have hV : d.V ≠ 0 := fun h => by
      rw [hz h] at hr
      simp only at hr
      omega
    unfold toldD
    rw [if_neg hV, if_pos hr]
  · refine Or.inr ?_
    have hf : Fine d := ⟨by omega, by omega, fun h => by rw [hz h]; exact ⟨rfl, rfl⟩⟩
    rw [toldD_self hf]
    by_cases h0 : d.V = 0
    · refine Or.inl ⟨by omega, by omega, h0, ?_, ?_⟩
      · rw [hz h0]; rfl
      · rw [hz h0]; rfl
    · obtain ⟨m, hm⟩ : ∃ m, d.V = 2 * m + 1 := by
        rcases hodd with h | h
        · exact h
        · rw [h] at h0; exact absurd rfl h0
      have hlow := low_is h0 hf.1 hf.2.1
      refine Or.inr ⟨by omega, by omega, h0, lowX d.V d.e, _, _, hlow, hlow.1, btw_low (g := d.neg) h0 hf.1 hf.2.1 hlow, rfl, brk_low (g := d.neg) hm hf.1 hf.2.1 hlow, ?_⟩
      by_cases hI : lowX d.V d.e = 9218868437227405312
      · exact Or.inl ⟨hI, if_pos (Or.inl hI)⟩
      · have hl : lowX d.V d.e < 9218868437227405312 := by have := hlow.1; omega
        by_cases hs : sz d.V d.e = vX (lowX d.V d.e)
        · exact Or.inr (Or.inl ⟨hl, hs, if_pos (Or.inr hs)⟩)
        · exact Or.inr (Or.inr ⟨hl, hs, if_neg (fun h => by rcases h with h | h; exact hI h; exact hs h)⟩)
theorem low_zeroX : IsLow 0 0 := by
  have h1 := vX_lt (X := 0) (by decide)
  rw [vX_zero] at h1
  exact ⟨by decide, by rw [vX_zero]; exact Nat.le_refl _, fun _ => h1⟩

theorem nfits_no (g : Bool) (A : Option Addr) (n c : Nat) (e0 : Int) (w : World) (h : e0 < -1073741824 ∨ 1073741824 < e0) :
    Calls Tryd.prog 19 #[.agg #[.bool g, .slice A n c, .int .i64 e0]] w fun e w' => e = .returned (.bool false) ∧ Below w.heap.size w w' := by
  have H1 := Lib.hid (below1 w (.cells #[.bool g, .slice A n c, .int .i64 e0] 37))
  rcases h with h | h
  · have b1 : decide (-1073741824 ≤ e0) = false := decide_eq_false (by omega)
    clear h
    go_enter Tryd.func19, Tryd.ntmps19
    go_wp2
    go_ret
    exact ⟨rfl, H1.out⟩
  · have b1 : decide (-1073741824 ≤ e0) = true := decide_eq_true (by omega)
    have b2 : decide (e0 ≤ 1073741824) = false := decide_eq_false (by omega)
    clear h
    go_enter Tryd.func19, Tryd.ntmps19
    go_wp2
    go_ret
    exact ⟨rfl, H1.out⟩

theorem nbreaks_long (g : Bool) (A : Option Addr) (n c : Nat) (e0 : Int) (w : World) (hT : Tab w) (h : 40 < n) :
    Calls Tryd.prog 4 #[.agg #[.bool g, .slice A n c, .int .i64 e0]] w fun e w' => e = .returned (.bool true) ∧ Below w.heap.size w w' := by
  have a1 := below1 w (.cells #[.bool g, .slice A n c, .int .i64 e0] 41)
  have H1 := Lib.hid (nalive_any _ (hT.below a1))
  have HS := Lib.hid a1
  have Hb := Lib.hid (Bd.new w 41 g A n c e0)
  have q1 : decide ((40 : Int) < (n : Int)) = true := decide_eq_true (by omega)
  clear a1 hT h
  go_enter Tryd.func4, Tryd.ntmps4
  go_wp2_with fail
  refine H1.out.mono ?_
  rintro e w1 ⟨rfl, hb⟩
  have k1 := Hb.out.below hb
  have x1 := k1.c1
  have Hfin := Lib.hid (HS.out.trans (hb.mono HS.out.size))
  clear k1 hb H1 Hb HS
  go_wp2
  go_ret
  exact ⟨rfl, Hfin.out⟩

set_option maxRecDepth 20000 in
set_option maxHeartbeats 4000000 in
theorem walk_nextBreaks (g : Bool) (A : Option Addr) (n c : Nat) (xs : List Nat) (e0 : Int) (w : World) (hT : Tab w) (hA : Lim w A n c xs) :
    Calls Tryd.prog 4 #[.agg #[.bool g, .slice A n c, .int .i64 e0]] w fun e w' => e = .returned (.bool true) ∧ Below w.heap.size w w' := by
  by_cases hn : n ≤ 40
  case neg => exact nbreaks_long g A n c e0 w hT (by omega)
  have a1 := below1 w (.cells #[.bool g, .slice A n c, .int .i64 e0] 41)
  have H1 := Lib.hid (nalive_any _ (hT.below a1))
  have HS := Lib.hid a1
  have Hb := Lib.hid (Bd.new w 41 g A n c e0)
  have HA := Lib.hid (hA.below a1)
  have HT := Lib.hid (hT.below a1)
  have q1 : decide ((40 : Int) < (n : Int)) = false := decide_eq_false (by omega)
  have q1' : decide (40 < n) = false := decide_eq_false (by omega)
  obtain ⟨d, hd⟩ : ∃ d, nO g (val xs) e0 = d := ⟨_, rfl⟩
  have hcase := breaks_cases hd
  have Hd := Lib.hid hd
  obtain ⟨X0, Y0, ok0, hbt⟩ : ∃ (X Y : Nat) (ok : Bool), btwO (mk g (val xs) e0) = (X, Y, ok) := ⟨_, _, _, rfl⟩
  obtain ⟨v0, hbk⟩ : ∃ v, brkO (mk g (val xs) e0) = v := ⟨_, rfl⟩
  have Hbt := Lib.hid hbt
  have Hbk := Lib.hid hbk
  obtain ⟨dg, dV, dE⟩ := d
  simp only at hcase
  rw [hbt, hbk] at hcase
  have hcase2 : ((dE < -1073741824 ∨ 1073741824 < dE) ∧ X0 = 0 ∧ Y0 = 0 ∧ ok0 = false ∧ v0 = false) ∨
      (-1073741824 ≤ dE ∧ dE ≤ 1073741824 ∧ dV = 0 ∧ X0 = 0 ∧ Y0 = 0 ∧ ok0 = true ∧ v0 = true) ∨
      (-1073741824 ≤ dE ∧ dE ≤ 1073741824 ∧ dV ≠ 0 ∧ ok0 = true ∧ X0 ≤ 9218868437227405312 ∧ Hid (IsLow (sz dV dE) X0) ∧ Hid (v0 = true ↔ (X0 = 9218868437227405312 ∧ sz dV dE = vX 9218868437227405312) ∨ (X0 < 9218868437227405312 ∧ (sz dV dE = vX X0 ∨ 2 * sz dV dE = vX X0 + vX (X0 + 1)))) ∧
        ((X0 = 9218868437227405312 ∧ Y0 = X0) ∨ (X0 < 9218868437227405312 ∧ Hid (sz dV dE = vX X0) ∧ Y0 = X0) ∨ (X0 < 9218868437227405312 ∧ Hid (sz dV dE ≠ vX X0) ∧ Y0 = X0 + 1))) := by
    rcases hcase with ⟨h1, h2⟩ | ⟨h1, h2, h3, h4, h5⟩ | ⟨h1, h2, h3, X, Y, v, h4, h5, h6, h7, h8, h9⟩
    · rw [h2] at hbt hbk
      have hb2 : ((0 : Nat), (0 : Nat), false) = (X0, Y0, ok0) := hbt
      simp only [Prod.mk.injEq] at hb2
      exact Or.inl ⟨h1, hb2.1.symm, hb2.2.1.symm, hb2.2.2.symm, hbk.symm⟩
    · simp only [Prod.mk.injEq] at h4
      exact Or.inr (Or.inl ⟨h1, h2, h3, h4.1, h4.2.1, h4.2.2, h5⟩)
    · simp only [Prod.mk.injEq] at h6
      obtain ⟨rfl, rfl, rfl⟩ := h6
      subst h7
      exact Or.inr (Or.inr ⟨h1, h2, h3, rfl, h5, h4, h8, h9⟩)
  clear a1 hA hT hd hbt hbk hcase
  go_enter Tryd.func4, Tryd.ntmps4
  go_wp2_with fail
  refine H1.out.mono ?_
  rintro e w1 ⟨rfl, hb1⟩
  have k1 := Hb.out.below hb1
  have H2 := rof_any g A n c xs e0 w1 (HA.out.below hb1) (by omega)
  rw [Hd.out] at H2
  have H2 := Lib.hid H2
  have HS1 := Lib.hid (HS.out.trans (hb1.mono HS.out.size))
  have HA1 := Lib.hid (HA.out.below hb1)
  have HT1 := Lib.hid (HT.out.below hb1)
  have Hk1 := Lib.hid k1
  have x0 := k1.c0
  have x1 := k1.c1
  have x2 := k1.c2
  clear k1 hb1 H1 Hb HS HA HT Hd
  go_wp2_with fail
  refine H2.out.mono ?_
  rintro e w2 ⟨A2, m2, c2, ds, rfl, hm2, hl2, hd2, hv2, hb2⟩
  simp only at hv2
  have a3 := below1 w2 (.cells #[.bool dg, .slice A2 m2 c2, .int .i64 dE] 37)
  have hb3 := hb2.trans (a3.mono hb2.size)
  have K3 : HoldY w g A n c xs e0 w2.heap.size dg A2 m2 c2 ds dE (w2.alloc (.cells #[.bool dg, .slice A2 m2 c2, .int .i64 dE] 37)) :=
    ⟨Hk1.out.below hb3, HA1.out.below hb3, HT1.out.below hb3, Bd.new w2 _ _ _ _ _ _, hl2.below a3, (Hk1.out.below hb2).lt, HS1.out.trans (hb3.mono HS1.out.size)⟩
  have hmz := dnil_iff hl2 hd2
  rw [hv2] at hmz
  have HD2 : Hid (D.Bare ds ∧ D.val ds = dV) := ⟨hd2, hv2⟩
  have HK3 := Lib.hid K3
  have H4 := Lib.hid (between_l X0 Y0 ok0 g A n c xs e0 _ K3.2.1 (by omega) K3.2.2.1 Hbt)
  clear x0 x1 x2 hl2 hd2 hv2 hb3 a3 hb2 K3 HS1 HA1 HT1 Hk1 H2 Hbt
  have x0 := HK3.out.1.c0
  have x1 := HK3.out.1.c1
  have x2 := HK3.out.1.c2
  go_wp2_with fail
  refine H4.out.mono ?_
  rintro e w4 ⟨rfl, hb4⟩
  have K4 := Lib.hid (HK3.out.below hb4)
  have H5 := Lib.hid (break_l v0 g A n c xs e0 _ K4.out.2.1 (by omega) K4.out.2.2.1 Hbk)
  clear hb4 HK3 H4 Hbk x0 x1 x2
  have x0 := K4.out.1.c0
  have x1 := K4.out.1.c1
  have x2 := K4.out.1.c2
  go_wp2_with fail
  refine H5.out.mono ?_
  rintro e w5 ⟨rfl, hb5⟩
  have K5 := Lib.hid (K4.out.below hb5)
  clear hb5 K4 H5 x0 x1 x2
  have x0 := K5.out.2.2.2.1.c0
  have x1 := K5.out.2.2.2.1.c1
  have x2 := K5.out.2.2.2.1.c2
  rcases hcase2 with ⟨hE, rfl, rfl, rfl, rfl⟩ | ⟨hE1, hE2, hV, rfl, rfl, rfl, rfl⟩ | ⟨hE1, hE2, hV, rfl, hX9, HX, Hv, hY⟩
  · have HF := Lib.hid (nfits_no dg A2 m2 c2 dE w5 hE)
    clear HD2 hmz hm2 hE
    go_wp2_with fail
    refine HF.out.mono ?_
    rintro e w6 ⟨rfl, hb6⟩
    have Hfin := Lib.hid (K5.out.below hb6).2.2.2.2.2.2
    clear hb6 HF K5 x0 x1 x2
    go_wp2
    go_ret
    exact ⟨rfl, Hfin.out⟩
  · have HF := Lib.hid (fits_yes dg A2 m2 c2 dE w5 hE1 hE2)
    obtain rfl : m2 = 0 := hmz.2 hV
    have HE := Lib.hid (And.intro hE1 hE2)
    have HV := Lib.hid hV
    clear hE1 hE2 hV hmz hm2
    go_wp2_with fail
    refine HF.out.mono ?_
    rintro e w6 ⟨rfl, hb6⟩
    have K6 := Lib.hid (K5.out.below hb6)
    clear hb6 HF K5 x0 x1 x2
    have x0 := K6.out.2.2.2.1.c0
    have x1 := K6.out.2.2.2.1.c1
    have x2 := K6.out.2.2.2.1.c2
    go_wp2_with fail
    refine (rbrk_nil dg A2 c2 dE w6).mono ?_
    rintro e w7 ⟨rfl, hb7⟩
    have K7 := Lib.hid (K6.out.below hb7)
    clear hb7 K6 x0 x1 x2
    have x0 := K7.out.2.2.2.1.c0
    have x1 := K7.out.2.2.2.1.c1
    have x2 := K7.out.2.2.2.1.c2
    have xf := K7.out.2.2.2.1.fz
    have K8 := Lib.hid K7.out.strike
    have y0 := K8.out.1.c0
    have y1 := K8.out.1.c1
    have y2 := K8.out.1.c2
    have H9 := Lib.hid (rbelow_all 0 A2 0 c2 ds dE _ K8.out.2.1 HD2.out.1 (by decide) HE.out.1 HE.out.2 (by rw [HD2.out.2, HV.out, sz_zero]; exact low_zeroX))
    clear K7 HD2 HE HV
    go_wp2_with fail
    refine H9.out.mono ?_
    rintro e w9 ⟨rfl, hb9⟩
    have K9 := Lib.hid (K8.out.below hb9)
    clear hb9 K8 H9 x0 x1 x2 xf y0 y1 y2
    have y0 := K9.out.1.c0
    have y1 := K9.out.1.c1
    have y2 := K9.out.1.c2
    have Hfin := Lib.hid (fun nq => below_drewN K9.out.2.2 nq)
    clear K9
    go_wp2_with fail
    go_quiet (fail)
    go_wp2_with fail
    go_ret
    exact ⟨rfl, Hfin.out _⟩
  · have HF := Lib.hid (fits_yes dg A2 m2 c2 dE w5 hE1 hE2)
    have hm0 : m2 ≠ 0 := fun h => hV (hmz.1 h)
    have q2 : ((m2 : Int) == 0) = false := beq_no (by omega)
    have rv : (v0 != v0) = false := by cases v0 <;> rfl
    have rX : ((X0 : Int) == (X0 : Int)) = true := beq_yes rfl
    have rY : ((Y0 : Int) == (Y0 : Int)) = true := beq_yes rfl
    obtain ⟨X1, hX1⟩ : ∃ X1, X0 + 1 = X1 := ⟨_, rfl⟩
    have eX1 : (X0 : Int) + 1 = (X1 : Int) := by omega
    have hX1b : X1 < 18446744073709551616 := by omega
    have HBr : Hid (∀ s, Dig s A2 m2 c2 ds → Calls Tryd.prog 20 #[.agg #[.bool dg, .slice A2 m2 c2, .int .i64 dE]] s fun e w' => e = .returned (.bool v0) ∧ Below s.heap.size s w') := fun s hs =>
      rbrk_l v0 X0 dg A2 m2 c2 ds dE s hs HD2.out.1 (by omega) (by rw [HD2.out.2]; exact hV) hE1 hE2 (by rw [HD2.out.2]; exact HX.out) (by rw [HD2.out.2]; exact Hv.out)
    have HBe : Hid (∀ s, Dig s A2 m2 c2 ds → Calls Tryd.prog 21 #[.agg #[.bool false, .slice A2 m2 c2, .int .i64 dE]] s fun e w' => e = .returned (.int .u64 (X0 : Int)) ∧ Below s.heap.size s w') := fun s hs =>
      rbelow_all X0 A2 m2 c2 ds dE s hs HD2.out.1 (by omega) hE1 hE2 (by rw [HD2.out.2]; exact HX.out)
    have HWS : Hid (X0 < 9218868437227405312 → ∃ (VX : Nat) (EX : Int), -1073741824 ≤ EX ∧ EX ≤ 1073741824 ∧ sz VX EX = vX X0 ∧ ∀ s, Calls Tryd.prog 23 #[.int .u64 (X0 : Int)] s (NTold s ⟨false, VX, EX⟩ 4)) := fun hl => by
      obtain ⟨f1, f2, f3, f4, _, _⟩ := vO_facts (b := X0) (by omega)
      have fO_v : vO X0 = fO X0 := by unfold vO; rw [if_neg (by omega)]
      rw [fO_v] at f1 f2 f3 f4
      refine ⟨(fO X0).V, (fO X0).e, by omega, by omega, f2, fun s => ?_⟩
      have h := worth_any X0 (by omega) s
      rw [show fO X0 = ⟨false, (fO X0).V, (fO X0).e⟩ from by rw [← f1]] at h
      exact h
    have HSm : Hid (∀ (t : Bool) (VX : Nat) (EX : Int), -1073741824 ≤ EX → EX ≤ 1073741824 → decide (sz VX EX = sz dV dE) = t → ∀ u A1 m1 c1 us, CellsZ w w2.heap.size A2 m2 c2 ds dE u → (Dig u A1 m1 c1 us ∧ D.Bare us ∧ D.val us = VX ∧ m1 ≤ 4) →
        Calls Tryd.prog 22 #[.agg #[.bool false, .slice A1 m1 c1, .int .i64 EX], .agg #[.bool false, .slice A2 m2 c2, .int .i64 dE]] u fun e w' => e = .returned (.bool t) ∧ CellsZ w w2.heap.size A2 m2 c2 ds dE w') := fun t VX EX q1 q2 ht u A1 m1 c1 us hu hP => by
      have h := hu.2.2.2.out
      refine (rsame8_l t A1 m1 c1 us EX A2 m2 c2 ds dE u hP.1 h.2.1 hP.2.1 HD2.out.1 (by omega) (by omega) q1 q2 hE1 hE2 (by rw [hP.2.2.1, HD2.out.2]; exact ht)).mono ?_
      rintro e w' ⟨rfl, hb'⟩
      exact ⟨rfl, (h.below hb').cells⟩
    clear hE1 hE2 hV hmz hm2 hm0 HX Hv HD2
    go_wp2_with fail
    refine HF.out.mono ?_
    rintro e w6 ⟨rfl, hb6⟩
    have K6 := Lib.hid (K5.out.below hb6)
    clear hb6 HF K5 x0 x1 x2
    have x0 := K6.out.2.2.2.1.c0
    have x1 := K6.out.2.2.2.1.c1
    have x2 := K6.out.2.2.2.1.c2
    go_wp2_with fail
    refine (HBr.out _ K6.out.2.2.2.2.1).mono ?_
    rintro e w7 ⟨rfl, hb7⟩
    have K7 := Lib.hid (K6.out.below hb7)
    clear hb7 K6 x0 x1 x2 HBr
    have x0 := K7.out.2.2.2.1.c0
    have x1 := K7.out.2.2.2.1.c1
    have x2 := K7.out.2.2.2.1.c2
    have xf := K7.out.2.2.2.1.fz
    have K8 := Lib.hid K7.out.strike
    have y0 := K8.out.1.c0
    have y1 := K8.out.1.c1
    have y2 := K8.out.1.c2
    clear K7
    go_wp2_with fail
    refine (HBe.out _ K8.out.2.1).mono ?_
    rintro e w9 ⟨rfl, hb9⟩
    have K9 := Lib.hid (K8.out.below hb9)
    clear hb9 K8 HBe x0 x1 x2 xf y0 y1 y2 rv
    rcases hY with ⟨hXI, hYX⟩ | ⟨hXl, HsX, hYX⟩ | ⟨hXl, HsX, hYX⟩
    · obtain rfl : X0 = Y0 := hYX.symm
      have c1 : ((X0 : Int) == 9218868437227405312) = true := beq_yes (by omega)
      have y0 := K9.out.1.c0
      have y1 := K9.out.1.c1
      have y2 := K9.out.1.c2
      have Hfin := Lib.hid (fun nq => below_drewN K9.out.2.2 nq)
      clear K9 HWS HSm hXI hX1
      go_wp2_with fail
      go_quiet (fail)
      go_wp2_with fail
      go_ret
      exact ⟨rfl, Hfin.out _⟩
    · obtain rfl : X0 = Y0 := hYX.symm
      have c1 : ((X0 : Int) == 9218868437227405312) = false := beq_no (by omega)
      obtain ⟨VX, EX, f3, f4, f2, hw⟩ := HWS.out hXl
      have HW : Hid (∀ u, CellsZ w w2.heap.size A2 m2 c2 ds dE u → Calls Tryd.prog 23 #[.int .u64 (X0 : Int)] u fun e w' => ∃ (A1 : Option Addr) (m1 c1 : Nat) (us : List Nat), e = .returned (.agg #[.bool false, .slice A1 m1 c1, .int .i64 EX]) ∧ CellsZ w w2.heap.size A2 m2 c2 ds dE w' ∧ Hid (Dig w' A1 m1 c1 us ∧ D.Bare us ∧ D.val us = VX ∧ m1 ≤ 4)) := fun u hu => by
        refine (hw u).mono ?_
        rintro e w' ⟨A1, m1, c1, us, rfl, k1, k2, k3, k4, k5⟩
        exact ⟨A1, m1, c1, us, rfl, (hu.2.2.2.out.below k5).cells, k2, k3, k4, k1⟩
      have HC := Lib.hid (HSm.out true VX EX f3 f4 (by rw [f2]; exact decide_eq_true HsX.out.symm))
      have K10 := Lib.hid (K9.out.below (below_drew _)).cells
      clear HWS HSm K9 f3 f4 f2 hw HsX hXl hYX hX1
      go_wp2_with fail
      go_region_held3 (fun w' => w'.cell? ⟨w2.heap.size, 0, none⟩ = some (.bool false) ∧ w'.cell? ⟨w2.heap.size, 1, none⟩ = some (.slice A2 m2 c2) ∧ w'.cell? ⟨w2.heap.size, 2, none⟩ = some (.int .i64 dE) ∧ Hid (HoldZ w w2.heap.size A2 m2 c2 ds dE w'))
        (first | (with_reducible exact K10.out) | (with_reducible assumption))
        (first | (go_at_call 23; (with_reducible refine (HW.out _ (by first | (with_reducible exact K10.out) | (with_reducible assumption))).mono ?_); rintro e w11 ⟨A6, m6, c6, us, rfl, hY1, hP⟩) | (go_at_call 22; (with_reducible refine (HC.out _ A6 m6 c6 us (by with_reducible assumption) hP.out).mono ?_); rintro e w12 ⟨rfl, hZ⟩))
      have Hfin := Lib.hid hZ.2.2.2.out.2.2
      clear hY1 hP hZ HC HW K10
      go_wp2_with fail
      go_ret
      exact ⟨rfl, Hfin.out⟩
    · have c1 : ((X0 : Int) == 9218868437227405312) = false := beq_no (by omega)
      obtain rfl : Y0 = X1 := by omega
      obtain ⟨VX, EX, f3, f4, f2, hw⟩ := HWS.out hXl
      have HW : Hid (∀ u, CellsZ w w2.heap.size A2 m2 c2 ds dE u → Calls Tryd.prog 23 #[.int .u64 (X0 : Int)] u fun e w' => ∃ (A1 : Option Addr) (m1 c1 : Nat) (us : List Nat), e = .returned (.agg #[.bool false, .slice A1 m1 c1, .int .i64 EX]) ∧ CellsZ w w2.heap.size A2 m2 c2 ds dE w' ∧ Hid (Dig w' A1 m1 c1 us ∧ D.Bare us ∧ D.val us = VX ∧ m1 ≤ 4)) := fun u hu => by
        refine (hw u).mono ?_
        rintro e w' ⟨A1, m1, c1, us, rfl, k1, k2, k3, k4, k5⟩
        exact ⟨A1, m1, c1, us, rfl, (hu.2.2.2.out.below k5).cells, k2, k3, k4, k1⟩
      have HC := Lib.hid (HSm.out false VX EX f3 f4 (by rw [f2]; exact decide_eq_false (fun h => HsX.out h.symm)))
      have K10 := Lib.hid (K9.out.below (below_drew _)).cells
      clear HWS HSm K9 f3 f4 f2 hw HsX hXl hYX hX1
      go_wp2_with fail
      go_region_held3 (fun w' => w'.cell? ⟨w2.heap.size, 0, none⟩ = some (.bool false) ∧ w'.cell? ⟨w2.heap.size, 1, none⟩ = some (.slice A2 m2 c2) ∧ w'.cell? ⟨w2.heap.size, 2, none⟩ = some (.int .i64 dE) ∧ Hid (HoldZ w w2.heap.size A2 m2 c2 ds dE w'))
        (first | (with_reducible exact K10.out) | (with_reducible assumption))
        (first | (go_at_call 23; (with_reducible refine (HW.out _ (by first | (with_reducible exact K10.out) | (with_reducible assumption))).mono ?_); rintro e w11 ⟨A6, m6, c6, us, rfl, hY1, hP⟩) | (go_at_call 22; (with_reducible refine (HC.out _ A6 m6 c6 us (by with_reducible assumption) hP.out).mono ?_); rintro e w12 ⟨rfl, hZ⟩))
      have Hfin := Lib.hid hZ.2.2.2.out.2.2
      clear hY1 hP hZ HC HW K10
      go_wp2_with fail
      go_ret
      exact ⟨rfl, Hfin.out⟩
end Go.Proofs.YtgacafdkhailmaaDoor
