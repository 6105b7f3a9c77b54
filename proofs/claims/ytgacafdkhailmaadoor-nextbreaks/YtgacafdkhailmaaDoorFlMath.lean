/- What 64 bits are worth: fields, kinds, sizes, and the bits of a dyad. -/
import Derived.Test.YtgacafdkhailmaaDoorDyMath
namespace Go.Proofs.YtgacafdkhailmaaDoor

def fex (b : Nat) : Nat := b / 4503599627370496 % 2048
def ffr (b : Nat) : Nat := b % 4503599627370496
def fng (b : Nat) : Bool := decide (9223372036854775808 ≤ b)
def fkd (b : Nat) : Nat := if fex b = 0 then (if ffr b = 0 then 0 else 1) else if fex b < 2047 then 2 else if ffr b = 0 then 3 else if 2251799813685248 ≤ ffr b then 4 else 5
/-- The size without the power, and the power's exponent from the least one. -/
def fm (b : Nat) : Nat := if fex b = 0 then ffr b else ffr b + 4503599627370496
def fE (b : Nat) : Nat := fex b - 1
def fe (b : Nat) : Int := (fE b : Int) - 1074
/-- Its kind is 0 to 2. -/
def Fnt (b : Nat) : Prop := fex b ≠ 2047
instance (b : Nat) : Decidable (Fnt b) := inferInstanceAs (Decidable (fex b ≠ 2047))

theorem fex_lt (b : Nat) : fex b < 2048 := Nat.mod_lt _ (by decide)
theorem ffr_lt (b : Nat) : ffr b < 4503599627370496 := Nat.mod_lt _ (by decide)
theorem f_parts (b : Nat) : b % 9223372036854775808 = fE b * 4503599627370496 + fm b ∧ fm b < 9007199254740992 ∧ (0 < fE b → 4503599627370496 ≤ fm b) ∧ (Fnt b → fE b ≤ 2045) := by
  have h1 := fex_lt b
  have h2 := ffr_lt b
  have h3 : b % 9223372036854775808 = fex b * 4503599627370496 + ffr b := by unfold fex ffr; omega
  unfold Fnt
  unfold fE fm
  generalize fex b = x at *
  generalize ffr b = y at *
  generalize b % 9223372036854775808 = z at *
  rcases Nat.eq_zero_or_pos x with h | h
  · subst h
    rw [if_pos rfl]
    exact ⟨by rw [h3], by omega, by omega, by omega⟩
  · obtain ⟨k, rfl⟩ : ∃ k, x = k + 1 := ⟨x - 1, by omega⟩
    rw [if_neg (by omega), Nat.add_sub_cancel, h3]
    exact ⟨by rw [Nat.add_mul]; omega, by omega, by omega, by omega⟩
theorem fkd_fin (b : Nat) : fkd b ≤ 2 ↔ Fnt b := by
  have h1 := fex_lt b
  unfold fkd Fnt
  generalize fex b = x at *
  generalize ffr b = y at *
  split
  · split <;> omega
  · split
    · omega
    · split
      · omega
      · split <;> omega
theorem fkd_zero (b : Nat) : fkd b = 0 ↔ fm b = 0 := by
  have h1 := fex_lt b
  unfold fkd fm
  generalize fex b = x at *
  generalize ffr b = y at *
  split
  · split <;> omega
  · split
    · omega
    · split
      · omega
      · split <;> omega
theorem fin_of_zero {b : Nat} (h : fm b = 0) : Fnt b := (fkd_fin b).1 (by rw [(fkd_zero b).2 h]; decide)
theorem f_sign {b : Nat} (hb : b < 18446744073709551616) : b = (if fng b then 9223372036854775808 else 0) + b % 9223372036854775808 := by
  by_cases h : 9223372036854775808 ≤ b
  · rw [fng, decide_eq_true h, if_pos rfl]; omega
  · rw [fng, decide_eq_false h, if_neg (by decide)]; omega
theorem fe_bd {b : Nat} (h : Fnt b) : -1074 ≤ fe b ∧ fe b ≤ 971 := by
  have := (f_parts b).2.2.2 h
  unfold fe; omega
theorem fe_held {b : Nat} (h : Fnt b) : held (fe b) = fe b := by
  have := fe_bd h
  exact held_id (by omega) (by omega)

/-- Bits laid out of their parts. -/
theorem f_of {L M : Nat} (s : Bool) {X : Nat} (h1 : M < 9007199254740992) (h2 : 0 < L → 4503599627370496 ≤ M) (h3 : L ≤ 2045) (hX : X = (if s then 9223372036854775808 else 0) + (L * 4503599627370496 + M)) :
    X < 18446744073709551616 ∧ Fnt X ∧ fm X = M ∧ fE X = L ∧ fng X = s := by
  have hs : ∃ t, (t = 0 ∨ t = 1) ∧ (if s then 9223372036854775808 else 0) = t * 9223372036854775808 ∧ (s = true ↔ t = 1) := by
    cases s
    · exact ⟨0, Or.inl rfl, rfl, by decide⟩
    · exact ⟨1, Or.inr rfl, rfl, by decide⟩
  obtain ⟨t, ht, hst, hs⟩ := hs
  rw [hst] at hX
  have hng : fng X = s := by
    unfold fng
    cases s
    · have : t = 0 := by rcases ht with h | h; exact h; exact absurd (hs.2 h) (by decide)
      exact decide_eq_false (by omega)
    · have := hs.1 rfl
      exact decide_eq_true (by omega)
  rcases Nat.lt_or_ge M 4503599627370496 with h | h
  · have hL : L = 0 := by omega
    subst hL
    have e1 : fex X = 0 := by unfold fex; omega
    have e2 : ffr X = M := by unfold ffr; omega
    exact ⟨by omega, by unfold Fnt; omega, by rw [fm, if_pos e1, e2], by rw [fE, e1], hng⟩
  · have e1 : fex X = L + 1 := by unfold fex; omega
    have e2 : ffr X = M - 4503599627370496 := by unfold ffr; omega
    exact ⟨by omega, by unfold Fnt; omega, by rw [fm, if_neg (by omega), e2]; omega, by rw [fE, e1]; omega, hng⟩

/-- A dyad as the document's number: odd, or 0. -/
def nO (g : Bool) (V : Nat) (e : Int) : Dy := if V = 0 then ⟨false, 0, 0⟩ else ⟨g, V / 2 ^ low V, held e + low V⟩
theorem nO_zero (g : Bool) (e : Int) : nO g 0 e = ⟨false, 0, 0⟩ := rfl
theorem nO_pos (g : Bool) {V : Nat} (e : Int) (h : V ≠ 0) : nO g V e = ⟨g, V / 2 ^ low V, held e + low V⟩ := if_neg h
theorem mk_nO (g : Bool) (V : Nat) (e : Int) : mk g V e = toldD (nO g V e).neg (nO g V e).V (nO g V e).e := by
  by_cases h : V = 0
  · subst h; rfl
  · rw [nO_pos g e h]; rfl
def Odd (d : Dy) : Prop := (∃ m, d.V = 2 * m + 1) ∨ d = ⟨false, 0, 0⟩
theorem nO_odd (g : Bool) (V : Nat) (e : Int) : Odd (nO g V e) := by
  by_cases h : V = 0
  · subst h; exact Or.inr rfl
  · rw [nO_pos g e h]
    obtain ⟨m, hm⟩ := low_spec (Nat.pos_of_ne_zero h)
    refine Or.inl ⟨m, ?_⟩
    show V / 2 ^ low V = 2 * m + 1
    have h2 := Nat.two_pow_pos (low V)
    generalize low V = l at *
    rw [hm, Nat.mul_div_cancel_left _ h2]
/-- What is odd stays as it is. -/
theorem nO_self {d : Dy} (h : Odd d) (h1 : -2147483648 ≤ d.e) (h2 : d.e ≤ 2147483648) : nO d.neg d.V d.e = d := by
  rcases h with ⟨m, hm⟩ | h
  · have hl : low d.V = 0 := low_eq (l := 0) (m := m) (by rw [hm]; omega)
    rw [nO_pos _ _ (by omega), hl, Nat.pow_zero, Nat.div_one]
    have : held d.e = d.e := by unfold held; omega
    rw [this]
    show Dy.mk d.neg d.V (d.e + ((0 : Nat) : Int)) = d
    rw [show ((0 : Nat) : Int) = 0 from rfl, Int.add_zero]
  · subst h; rfl

/-- The bits of a size. -/
def layd (V : Nat) (e top : Int) : Nat := (max (top - 52) (-1074) + 1074).toNat * 4503599627370496 + V * 2 ^ (e - max (top - 52) (-1074)).toNat
/-- What Exact tells of an odd one. -/
def exD (d : Dy) : Nat × Bool :=
  if d.V = 0 then (0, true) else
  if 1023 < (blen d.V : Int) - 1 + d.e ∨ d.e < -1074 ∨ 52 < (blen d.V : Int) - 1 then (0, false) else
  ((if d.neg then 9223372036854775808 else 0) + layd d.V d.e ((blen d.V : Int) - 1 + d.e), true)

theorem layd_spec {V : Nat} {e top : Int} (hV : V ≠ 0) (htop : top = (blen V : Int) - 1 + e) (h1 : top ≤ 1023) (h2 : -1074 ≤ e) (h3 : (blen V : Int) - 1 ≤ 52) :
    ∃ L M k : Nat, layd V e top = L * 4503599627370496 + M ∧ M = V * 2 ^ k ∧ M < 9007199254740992 ∧ (0 < L → 4503599627370496 ≤ M) ∧ L ≤ 2045 ∧ e = (L : Int) - 1074 + k ∧ max (top - 52) (-1074) + 1074 = (L : Int) := by
  obtain ⟨lo, hlo⟩ : ∃ lo, max (top - 52) (-1074) = lo := ⟨_, rfl⟩
  have hlo1 : lo = top - 52 ∨ (lo = -1074 ∧ top - 52 < -1074) := by omega
  have hB := blen_pos hV
  refine ⟨(lo + 1074).toNat, V * 2 ^ (e - lo).toNat, (e - lo).toNat, by rw [layd, hlo], rfl, ?_, ?_, by omega, by omega, by omega⟩
  · have h4 : blen (V * 2 ^ (e - lo).toNat) ≤ 53 := by rw [blen_shl hV]; omega
    exact blen_le_iff.1 h4
  · intro h
    have h4 : blen (V * 2 ^ (e - lo).toNat) = 53 := by rw [blen_shl hV]; omega
    have h5 := blen_le (x := V * 2 ^ (e - lo).toNat) (fun h0 => by rw [h0] at h4; cases h4)
    rw [h4] at h5
    exact h5

theorem exD_cases (d : Dy) : (d.V = 0 ∧ exD d = (0, true)) ∨ (d.V ≠ 0 ∧ (1023 < (blen d.V : Int) - 1 + d.e ∨ d.e < -1074 ∨ 52 < (blen d.V : Int) - 1) ∧ exD d = (0, false)) ∨
    (d.V ≠ 0 ∧ (blen d.V : Int) - 1 + d.e ≤ 1023 ∧ -1074 ≤ d.e ∧ (blen d.V : Int) - 1 ≤ 52 ∧ exD d = ((if d.neg then 9223372036854775808 else 0) + layd d.V d.e ((blen d.V : Int) - 1 + d.e), true)) := by
  unfold exD
  by_cases h : d.V = 0
  · rw [if_pos h]; exact Or.inl ⟨h, rfl⟩
  · rw [if_neg h]
    by_cases h1 : 1023 < (blen d.V : Int) - 1 + d.e ∨ d.e < -1074 ∨ 52 < (blen d.V : Int) - 1
    · rw [if_pos h1]; exact Or.inr (Or.inl ⟨h, h1, rfl⟩)
    · rw [if_neg h1]; exact Or.inr (Or.inr ⟨h, by omega, by omega, by omega, rfl⟩)

/-- The number that bits are worth. -/
def fO (b : Nat) : Dy := nO (fng b) (fm b) (fe b)

theorem exD_yes {d : Dy} {X : Nat} (hd : Odd d) (h : exD d = (X, true)) : X < 18446744073709551616 ∧ Fnt X ∧ fO X = d := by
  rcases exD_cases d with ⟨h0, h1⟩ | ⟨_, _, h1⟩ | ⟨h0, h1, h2, h3, h4⟩
  · rw [h1] at h
    obtain rfl : 0 = X := congrArg Prod.fst h
    rcases hd with ⟨m, hm⟩ | rfl
    · omega
    · exact ⟨by decide, by decide, rfl⟩
  · rw [h1] at h; cases h
  · rw [h4] at h
    have hX : _ = X := congrArg Prod.fst h
    obtain ⟨L, M, k, k1, k2, k3, k4, k5, k6, _⟩ := layd_spec h0 rfl h1 h2 h3
    obtain ⟨f1, f2, f3, f4, f5⟩ := f_of (X := X) d.neg k3 k4 k5 (by rw [← hX, k1])
    refine ⟨f1, f2, ?_⟩
    rcases hd with ⟨m, hm⟩ | rfl
    · have hl : low M = k := low_eq (m := m) (by rw [k2, hm, Nat.mul_comm])
      have hM : M ≠ 0 := by rw [k2]; exact Nat.mul_ne_zero h0 (Nat.pos_iff_ne_zero.1 (Nat.two_pow_pos _))
      have he : held (fe X) = fe X := fe_held f2
      unfold fO
      rw [f3, f5, nO_pos _ _ hM, he, hl, k2, Nat.mul_div_cancel _ (Nat.two_pow_pos _), fe, f4, ← k6]
    · exact absurd rfl h0

theorem fO_zero {b : Nat} (h : fm b = 0) : fO b = ⟨false, 0, 0⟩ := by rw [fO, h, nO_zero]
/-- .. comes back. -/
theorem exD_back {b : Nat} (hb : b < 18446744073709551616) (hf : Fnt b) : exD (fO b) = (if fm b = 0 then 0 else b, true) := by
  by_cases h0 : fm b = 0
  · rw [fO_zero h0, if_pos h0]; rfl
  · rw [if_neg h0]
    have hO := nO_pos (fng b) (fe b) h0
    rw [fe_held hf] at hO
    obtain ⟨p1, p2, p3, p4⟩ := f_parts b
    have hs := f_sign hb
    rw [p1] at hs
    have hodd := odd_part (fm b)
    have hVne : fm b / 2 ^ low (fm b) ≠ 0 := fun h => h0 (odd_part_zero.1 h)
    have hbl : blen (fm b) = blen (fm b / 2 ^ low (fm b)) + low (fm b) := by
      have := blen_shl (n := low (fm b)) hVne
      rw [hodd] at this
      exact this
    have hb1 : blen (fm b) ≤ 53 := blen_le_iff.2 p2
    have hb2 : 0 < fE b → blen (fm b) = 53 := fun h => blen_eq (p3 h) p2 (by decide)
    have hB := blen_pos hVne
    have hp4 := p4 hf
    have hfe : fe b = (fE b : Int) - 1074 := rfl
    unfold fO
    rw [hO]
    unfold exD
    show (if fm b / 2 ^ low (fm b) = 0 then ((0 : Nat), true) else _) = _
    rw [if_neg hVne]
    show (if 1023 < (blen (fm b / 2 ^ low (fm b)) : Int) - 1 + (fe b + low (fm b)) ∨ fe b + low (fm b) < -1074 ∨ 52 < (blen (fm b / 2 ^ low (fm b)) : Int) - 1 then ((0 : Nat), false) else ((if fng b then 9223372036854775808 else 0) + layd (fm b / 2 ^ low (fm b)) (fe b + low (fm b)) ((blen (fm b / 2 ^ low (fm b)) : Int) - 1 + (fe b + low (fm b))), true)) = _
    rw [if_neg (by omega)]
    have hl : max ((blen (fm b / 2 ^ low (fm b)) : Int) - 1 + (fe b + low (fm b)) - 52) (-1074) = fe b := by
      rcases Nat.eq_zero_or_pos (fE b) with h | h
      · omega
      · have := hb2 h; omega
    rw [layd, hl, show (fe b + 1074).toNat = fE b by omega, show (fe b + (low (fm b) : Int) - fe b).toNat = low (fm b) by omega, hodd, ← hs]

/-- Greater bits are worth more. -/
theorem f_less {a b : Nat} (h : a % 9223372036854775808 < b % 9223372036854775808) (ha : Fnt a) (hb : Fnt b) : sz (fm a) (fe a) < sz (fm b) (fe b) := by
  obtain ⟨a1, a2, a3, a4⟩ := f_parts a
  obtain ⟨b1, b2, b3, b4⟩ := f_parts b
  have s1 : ∀ c : Nat, Fnt c → sh (fe c) = fE c + 2147482574 := fun c hc => by
    have h1 := sh_held (fe c)
    rw [fe_held hc] at h1
    have h2 : fe c = (fE c : Int) - 1074 := rfl
    omega
  unfold sz
  rw [s1 a ha, s1 b hb, Nat.pow_add, Nat.pow_add, ← Nat.mul_assoc, ← Nat.mul_assoc]
  apply Nat.mul_lt_mul_of_pos_right _ (Nat.two_pow_pos _)
  rw [a1, b1] at h
  clear a1 b1 a4 b4 s1 ha hb
  generalize fm a = x at *
  generalize fm b = y at *
  generalize fE a = p at *
  generalize fE b = q at *
  rcases Nat.lt_trichotomy p q with hpq | rfl | hpq
  · obtain ⟨k, rfl⟩ : ∃ k, q = p + 1 + k := ⟨q - (p + 1), by omega⟩
    rw [Nat.pow_add, Nat.pow_add, Nat.pow_one]
    have h1 : y * (2 ^ p * 2 * 1) ≤ y * (2 ^ p * 2 * 2 ^ k) := Nat.mul_le_mul_left _ (Nat.mul_le_mul_left _ (Nat.two_pow_pos k))
    refine Nat.lt_of_lt_of_le ?_ h1
    have h2 : y * (2 ^ p * 2 * 1) = (y * 2) * 2 ^ p := by rw [Nat.mul_one, Nat.mul_comm (2 ^ p), Nat.mul_assoc]
    rw [h2]
    exact Nat.mul_lt_mul_of_pos_right (by have := b3 (by omega); omega) (Nat.two_pow_pos _)
  · exact Nat.mul_lt_mul_of_pos_right (by omega) (Nat.two_pow_pos _)
  · have := a3 (by omega); omega
theorem f_same {a b : Nat} (h : a % 9223372036854775808 = b % 9223372036854775808) : sz (fm a) (fe a) = sz (fm b) (fe b) := by
  have e1 : fex a = fex b := by unfold fex; omega
  have e2 : ffr a = ffr b := by unfold ffr; omega
  unfold fe fE fm
  rw [e1, e2]
theorem sz_told {g : Bool} {V : Nat} {e : Int} {d : Dy} (h : mk g V e = some d) : dw false d.V d.e = (sz V e : Int) := by
  have h1 := (mk_fine h).2.1
  have h2 : ∀ (g : Bool) (V : Nat) (e : Int), (dw g V e).natAbs = sz V e := fun g V e => by cases g <;> simp [dw]
  have h3 := congrArg Int.natAbs h1
  rw [h2, h2] at h3
  show (sz d.V d.e : Int) = _
  rw [h3]
/-- The order of two sizes is that of the bits. -/
theorem f_order {a b : Nat} {x y : Dy} (ha : Fnt a) (hb : Fnt b) (hx : mk (fng a) (fm a) (fe a) = some x) (hy : mk (fng b) (fm b) (fe b) = some y) :
    cmpI (dw false x.V x.e) (dw false y.V y.e) = cmpI (a % 9223372036854775808 : Nat) (b % 9223372036854775808 : Nat) := by
  rw [sz_told hx, sz_told hy]
  rcases Nat.lt_trichotomy (a % 9223372036854775808) (b % 9223372036854775808) with h | h | h
  · have := f_less h ha hb
    rw [cmpI_lt (by omega), cmpI_lt (by omega)]
  · have := f_same h
    rw [cmpI_eq (by omega), cmpI_eq (by omega)]
  · have := f_less h hb ha
    rw [cmpI_gt (by omega), cmpI_gt (by omega)]
/-- Finite bits can be told. -/
theorem mk_fin {b : Nat} (h : Fnt b) : mk (fng b) (fm b) (fe b) = some (fO b) := by
  rw [mk_nO]
  show toldD (fO b).neg (fO b).V (fO b).e = _
  by_cases h0 : fm b = 0
  · rw [fO_zero h0]; rfl
  · have hV : (fO b).V ≠ 0 := by
      rw [fO, nO_pos _ _ h0]; exact fun h => h0 (odd_part_zero.1 h)
    have he : (fO b).e = fe b + low (fm b) := by rw [fO, nO_pos _ _ h0]; show held (fe b) + _ = _; rw [fe_held h]
    have hb := fe_bd h
    have hl : low (fm b) < 53 := by
      refine (low_lt_iff (Nat.pos_of_ne_zero h0)).2 ?_
      have := (f_parts b).2.1
      show fm b % 9007199254740992 ≠ 0
      omega
    rw [toldD, if_neg hV, if_neg (by omega)]
end Go.Proofs.YtgacafdkhailmaaDoor
