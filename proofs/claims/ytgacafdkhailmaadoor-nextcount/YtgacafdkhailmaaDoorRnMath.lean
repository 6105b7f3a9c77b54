/- Rounding, as plain mathematics: the size that bits are worth, which bits lie below a size, what a number is rounded to; by the program's way (rndO) and by sizes (rndS). -/
import Derived.Test.YtgacafdkhailmaaDoorFlMath
namespace Go.Proofs.YtgacafdkhailmaaDoor

/-- Where the least unit lies: a number that nothing reckons with. -/
noncomputable def kb : Nat := Classical.choose (⟨2147482574, rfl⟩ : ∃ k : Nat, k = 2147482574)
theorem kb_eq : kb = 2147482574 := Classical.choose_spec (⟨2147482574, rfl⟩ : ∃ k : Nat, k = 2147482574)
/-- The size of bits without a sign; infinity's is 2^1024. -/
noncomputable def vX (X : Nat) : Nat := fm X * 2 ^ (fE X + kb)

theorem vX_parts {L U X : Nat} (hX : X = L * 4503599627370496 + U) (hU : U ≤ 9007199254740992) (h2 : 0 < L → 4503599627370496 ≤ U) (hL : L ≤ 2045) : vX X = U * 2 ^ (L + kb) := by
  unfold vX
  rcases Nat.lt_or_ge U 4503599627370496 with h | h
  · have hL0 : L = 0 := by omega
    subst hL0
    have e1 : fex X = 0 := by unfold fex; omega
    have e2 : ffr X = U := by unfold ffr; omega
    rw [fm, if_pos e1, e2, fE, e1]
  · rcases Nat.lt_or_ge U 9007199254740992 with h' | h'
    · have e1 : fex X = L + 1 := by unfold fex; omega
      have e2 : ffr X = U - 4503599627370496 := by unfold ffr; omega
      rw [fm, if_neg (by omega), e2, fE, e1, Nat.add_sub_cancel, Nat.sub_add_cancel h]
    · have e0 : U = 9007199254740992 := by omega
      subst e0
      have e1 : fex X = L + 2 := by unfold fex; omega
      have e2 : ffr X = 0 := by unfold ffr; omega
      rw [fm, if_neg (by omega), e2, fE, e1, show L + 2 - 1 + kb = (L + kb) + 1 by omega, Nat.pow_succ]
      generalize 2 ^ (L + kb) = D
      omega
/-- The bits' own parts. -/
theorem x_parts {X : Nat} (h : X < 9218868437227405312) : X = fE X * 4503599627370496 + fm X ∧ fm X < 9007199254740992 ∧ (0 < fE X → 4503599627370496 ≤ fm X) ∧ fE X ≤ 2045 := by
  obtain ⟨p1, p2, p3, p4⟩ := f_parts X
  have hf : Fnt X := by unfold Fnt fex; omega
  exact ⟨by omega, p2, p3, p4 hf⟩
theorem vX_next {X : Nat} (h : X < 9218868437227405312) : vX (X + 1) = vX X + 2 ^ (fE X + kb) := by
  obtain ⟨p1, p2, p3, p4⟩ := x_parts h
  have h1 := vX_parts (L := fE X) (U := fm X + 1) (X := X + 1) (by omega) (by omega) (by omega) p4
  rw [h1, Nat.add_mul, Nat.one_mul]; rfl
theorem vX_lt {X : Nat} (h : X < 9218868437227405312) : vX X < vX (X + 1) := by
  rw [vX_next h]; exact Nat.lt_add_of_pos_right (Nat.two_pow_pos _)
theorem vX_mono {X d : Nat} (h : X + d ≤ 9218868437227405312) : vX X ≤ vX (X + d) := by
  induction d with
  | zero => exact Nat.le_refl _
  | succ d ih =>
    have h1 := ih (by omega)
    have h2 := vX_lt (X := X + d) (by omega)
    rw [← Nat.add_assoc]
    omega
theorem vX_le {X Y : Nat} (h : X ≤ Y) (hY : Y ≤ 9218868437227405312) : vX X ≤ vX Y := by
  have := vX_mono (X := X) (d := Y - X) (by omega)
  rwa [Nat.add_sub_cancel' h] at this

/-- The greatest bits that are worth at most S. -/
def IsLow (S X : Nat) : Prop := X ≤ 9218868437227405312 ∧ vX X ≤ S ∧ (X < 9218868437227405312 → S < vX (X + 1))
theorem IsLow.not_lt {S X Y : Nat} (hX : IsLow S X) (hY : IsLow S Y) : ¬ X < Y := by
  intro h
  have h1 := hX.2.2 (by have := hY.1; omega)
  have h2 := vX_le (X := X + 1) (Y := Y) h hY.1
  have h3 := hY.2.1
  omega
theorem IsLow.uniq {S X Y : Nat} (hX : IsLow S X) (hY : IsLow S Y) : X = Y := by
  have h1 := hX.not_lt hY
  have h2 := hY.not_lt hX
  omega
theorem IsLow.mono {S T X Y : Nat} (hX : IsLow S X) (hY : IsLow T Y) (h : S ≤ T) : X ≤ Y := by
  rcases Nat.lt_or_ge Y X with h' | h'
  · have h1 := hY.2.2 (by have := hX.1; omega)
    have h2 := vX_le (X := Y + 1) (Y := X) h' hX.1
    have h3 := hX.2.1
    omega
  · exact h'

/-- Does a size go up to the next unit? -/
def awy (g : Bool) (dir : Int) (odd half below : Bool) : Bool :=
  if dir = 0 then half && (below || odd) else if dir = 2 then !g && (half || below) else if dir = 3 then g && (half || below) else false
theorem awy_all {g : Bool} {dir : Int} {odd half below : Bool} (h : awy g dir odd half below = true) : awy g dir true true true = true := by
  unfold awy at *
  split
  · rfl
  · rename_i h0
    rw [if_neg h0] at h
    split
    · rename_i h1; rw [if_pos h1] at h; revert h; cases g <;> simp
    · rename_i h1
      rw [if_neg h1] at h
      split
      · rename_i h2; rw [if_pos h2] at h; revert h; cases g <;> simp
      · rename_i h2; rw [if_neg h2] at h; exact h
theorem awy_exact (g : Bool) (dir : Int) (odd : Bool) : awy g dir odd false false = false := by
  unfold awy
  cases g <;> simp

def sgn (g : Bool) (X : Nat) : Nat := (if g then 9223372036854775808 else 0) + X
def overM (g : Bool) (dir : Int) : Nat := if awy g dir true true true then 9218868437227405312 else 9218868437227405311
def overO (g : Bool) (dir : Int) : Nat × Nat := (sgn g (overM g dir), 5)
def upX (g : Bool) (dir : Int) (X : Nat) (half below : Bool) : Nat := X + (awy g dir (decide (X % 2 = 1)) half below).toNat
def fl (half below small : Bool) : Nat := if half || below then (if small then 3 else 1) else 0
/-- What comes of the bits below it. -/
def rfin (g : Bool) (dir : Int) (X : Nat) (half below small : Bool) : Nat × Nat :=
  if upX g dir X half below = 9218868437227405312 then overO g dir else (sgn g (upX g dir X half below), fl half below small)

def rtop (V : Nat) (e : Int) : Int := (blen V : Int) - 1 + e
def ru (V : Nat) (e : Int) : Int := max (rtop V e - 52) (-1074)
def rU (V : Nat) (e u : Int) : Nat := if u ≤ e then V * 2 ^ (e - u).toNat else V / 2 ^ (u - e - 1).toNat / 2
def rH (V : Nat) (e u : Int) : Bool := if u ≤ e then false else decide (V / 2 ^ (u - e - 1).toNat % 2 = 1)
def rB (V : Nat) (e u : Int) : Bool := if u ≤ e then false else decide (V % 2 ^ (u - e - 1).toNat ≠ 0)
def rX (V : Nat) (e : Int) : Nat := (ru V e + 1074).toNat * 4503599627370496 + rU V e (ru V e)
def lowX (V : Nat) (e : Int) : Nat := if 1023 < rtop V e then 9218868437227405312 else rX V e
/-- By the program's way: of a number that isn't 0. -/
def rndO (g : Bool) (V : Nat) (e : Int) (more : Bool) (dir : Int) : Nat × Nat :=
  if 1023 < rtop V e then overO g dir else
  rfin g dir (rX V e) (rH V e (ru V e)) (rB V e (ru V e) || more) (decide (rtop V e < -1022))
/-- By sizes. -/
noncomputable def hS (S X : Nat) : Bool := decide (vX X + vX (X + 1) ≤ 2 * S)
noncomputable def bS (S X : Nat) : Bool := decide (S ≠ vX X ∧ 2 * S ≠ vX X + vX (X + 1))
noncomputable def rndS (g : Bool) (S : Nat) (more : Bool) (dir : Int) (X : Nat) : Nat × Nat :=
  if X = 9218868437227405312 then overO g dir else rfin g dir X (hS S X) (bS S X || more) (decide (S < vX 4503599627370496))

theorem cut_facts {P Q U h b V : Nat} (hP : 0 < P) (hh : h < 2) (hb : b < Q) (hV : V = (2 * U + h) * Q + b) :
    U * (2 * Q * P) ≤ V * P ∧ V * P < (U + 1) * (2 * Q * P) ∧ (U * (2 * Q * P) + (U + 1) * (2 * Q * P) ≤ 2 * (V * P) ↔ h = 1) ∧
    (V * P = U * (2 * Q * P) ↔ h = 0 ∧ b = 0) ∧ (2 * (V * P) = U * (2 * Q * P) + (U + 1) * (2 * Q * P) ↔ h = 1 ∧ b = 0) := by
  have e1 : U * (2 * Q * P) = (U * Q * 2) * P := by rw [← Nat.mul_assoc, ← Nat.mul_assoc, Nat.mul_right_comm U 2 Q]
  have e2 : (U + 1) * (2 * Q * P) = (U * Q * 2 + 2 * Q) * P := by rw [Nat.add_mul, e1, Nat.one_mul, ← Nat.add_mul]
  have e3 : V = U * Q * 2 + h * Q + b := by rw [hV, Nat.add_mul, Nat.mul_comm 2 U, Nat.mul_right_comm U 2 Q]
  have e4 : 2 * (V * P) = (2 * V) * P := (Nat.mul_assoc _ _ _).symm
  rw [e1, e2, e4, ← Nat.add_mul]
  have c1 : ∀ x y : Nat, x * P ≤ y * P ↔ x ≤ y := fun x y => Nat.mul_le_mul_right_iff hP
  have c2 : ∀ x y : Nat, x * P < y * P ↔ x < y := fun x y => Nat.mul_lt_mul_right hP
  have c3 : ∀ x y : Nat, x * P = y * P ↔ x = y := fun x y => ⟨fun h => Nat.eq_of_mul_eq_mul_right hP h, fun h => by rw [h]⟩
  rw [c1, c2, c1, c3, c3]
  generalize U * Q = A at *
  have hh' : h = 0 ∨ h = 1 := by omega
  rcases hh' with rfl | rfl
  · rw [Nat.zero_mul] at e3
    omega
  · rw [Nat.one_mul] at e3
    omega

theorem sh_eq {e : Int} (h1 : -1073741824 ≤ e) (h2 : e ≤ 1073741824) : (sh e : Int) = e + 2147483648 := by rw [sh_held, held_id h1 h2]

/-- The program's way is that of sizes. -/
theorem rnd_low {V : Nat} {e : Int} (hV : V ≠ 0) (h1 : -1073741824 ≤ e) (h2 : e ≤ 1073741824) (ht : rtop V e ≤ 1023) :
    rX V e < 9218868437227405312 ∧ vX (rX V e) ≤ sz V e ∧ sz V e < vX (rX V e + 1) ∧ rH V e (ru V e) = hS (sz V e) (rX V e) ∧ rB V e (ru V e) = bS (sz V e) (rX V e) := by
  have hB := blen_pos hV
  have hlt := lt_blen V
  have hge := blen_le hV
  obtain ⟨u, hu⟩ : ∃ u, ru V e = u := ⟨_, rfl⟩
  obtain ⟨t, htt⟩ : ∃ t, rtop V e = t := ⟨_, rfl⟩
  have hu2 := hu
  unfold ru at hu2
  rw [htt] at hu2 ht
  unfold rtop at htt
  obtain ⟨L, hL⟩ : ∃ L : Nat, (u + 1074).toNat = L := ⟨_, rfl⟩
  have hL1 : u = (L : Int) - 1074 := by omega
  have hL2 : L ≤ 2045 := by omega
  have hsh := sh_eq h1 h2
  have hkb := kb_eq
  unfold rX
  rw [hu, hL]
  unfold sz
  by_cases hue : u ≤ e
  · obtain ⟨k, hk⟩ : ∃ k, (e - u).toNat = k := ⟨_, rfl⟩
    have hU : rU V e u = V * 2 ^ k := by rw [rU, if_pos hue, hk]
    have hbl := blen_shl (n := k) hV
    have hUle : V * 2 ^ k < 9007199254740992 := (blen_le_iff (k := 53)).1 (by rw [hbl]; omega)
    have hUge : 0 < L → 4503599627370496 ≤ V * 2 ^ k := fun h => by
      have h5 : blen (V * 2 ^ k) = 53 := by rw [hbl]; omega
      have h6 := blen_le (x := V * 2 ^ k) (fun h0 => by rw [h0] at h5; cases h5)
      rw [h5] at h6
      exact h6
    have hS : V * 2 ^ sh e = V * 2 ^ k * 2 ^ (L + kb) := by rw [Nat.mul_assoc, ← Nat.pow_add]; congr 2; omega
    rw [hU, hS]
    have v1 := vX_parts (L := L) (U := V * 2 ^ k) rfl (by omega) hUge hL2
    have v2 := vX_parts (L := L) (U := V * 2 ^ k + 1) (X := L * 4503599627370496 + V * 2 ^ k + 1) (by omega) (by omega) (fun h => by have := hUge h; omega) hL2
    have hp := Nat.two_pow_pos (L + kb)
    rw [hS] at *
    unfold Go.Proofs.YtgacafdkhailmaaDoor.hS Go.Proofs.YtgacafdkhailmaaDoor.bS
    rw [v1, v2, rH, if_pos hue, rB, if_pos hue]
    generalize V * 2 ^ k = U at *
    generalize 2 ^ (L + kb) = D at *
    rw [Nat.add_mul, Nat.one_mul]
    generalize U * D = Z at *
    exact ⟨by omega, Nat.le_refl _, by omega, (decide_eq_false (by omega)).symm, (decide_eq_false (by omega)).symm⟩
  · obtain ⟨k, hk⟩ : ∃ k, (u - e - 1).toNat = k := ⟨_, rfl⟩
    have hU : rU V e u = V / 2 ^ k / 2 := by rw [rU, if_neg hue, hk]
    have hdiv : V / 2 ^ k / 2 = V / 2 ^ (k + 1) := by rw [Nat.div_div_eq_div_mul, Nat.pow_succ]
    have hUle : V / 2 ^ (k + 1) < 9007199254740992 := by
      rw [Nat.div_lt_iff_lt_mul (Nat.two_pow_pos _), show (9007199254740992 : Nat) = 2 ^ 53 from by decide, ← Nat.pow_add]
      exact blen_le_iff.1 (by omega)
    have hUge : 0 < L → 4503599627370496 ≤ V / 2 ^ (k + 1) := fun h => by
      rw [Nat.le_div_iff_mul_le (Nat.two_pow_pos _), show (4503599627370496 : Nat) = 2 ^ 52 from by decide, ← Nat.pow_add, show 52 + (k + 1) = blen V - 1 by omega]
      exact hge
    rw [← hdiv] at hUle hUge
    have hD : 2 ^ (L + kb) = 2 * 2 ^ k * 2 ^ sh e := by
      rw [show L + kb = (k + 1) + sh e by omega, Nat.pow_add, Nat.pow_succ, Nat.mul_comm (2 ^ k) 2]
    rw [hU]
    have v1 := vX_parts (L := L) (U := V / 2 ^ k / 2) rfl (by omega) hUge hL2
    have v2 := vX_parts (L := L) (U := V / 2 ^ k / 2 + 1) (X := L * 4503599627370496 + V / 2 ^ k / 2 + 1) (by omega) (by omega) (fun h => by have := hUge h; omega) hL2
    have hb := Nat.mod_lt V (Nat.two_pow_pos k)
    have hVV : V = (2 * (V / 2 ^ k / 2) + V / 2 ^ k % 2) * 2 ^ k + V % 2 ^ k := by
      rw [Nat.div_add_mod]
      have := Nat.div_add_mod V (2 ^ k)
      rw [Nat.mul_comm] at this
      exact this.symm
    obtain ⟨f1, f2, f3, f4, f5⟩ := cut_facts (P := 2 ^ sh e) (Q := 2 ^ k) (U := V / 2 ^ k / 2) (h := V / 2 ^ k % 2) (b := V % 2 ^ k) (V := V) (Nat.two_pow_pos _) (Nat.mod_lt _ (by decide)) hb hVV
    rw [← hD] at f1 f2 f3 f4 f5
    unfold Go.Proofs.YtgacafdkhailmaaDoor.hS Go.Proofs.YtgacafdkhailmaaDoor.bS
    rw [v1, v2, rH, if_neg hue, rB, if_neg hue, hk]
    refine ⟨by omega, f1, f2, ?_, ?_⟩
    · rw [decide_eq_decide]; exact f3.symm
    · rw [decide_eq_decide]
      constructor
      · intro h
        exact ⟨fun h' => h (f4.1 h').2, fun h' => h (f5.1 h').2⟩
      · rintro ⟨ha, hb'⟩ h0
        have h3 := Nat.mod_lt (V / 2 ^ k) (show 0 < 2 by decide)
        have h4 : V / 2 ^ k % 2 = 0 ∨ V / 2 ^ k % 2 = 1 := by omega
        rcases h4 with h4 | h4
        · exact ha (f4.2 ⟨h4, h0⟩)
        · exact hb' (f5.2 ⟨h4, h0⟩)

theorem vX_norm : vX 4503599627370496 = 2 ^ (52 + kb) := by
  have := vX_parts (L := 0) (U := 4503599627370496) (X := 4503599627370496) (by omega) (by omega) (by omega) (by omega)
  rw [this, Nat.zero_add, Nat.pow_add]
theorem vX_inf : vX 9218868437227405312 = 2 ^ (2098 + kb) := by
  have := vX_parts (L := 2045) (U := 9007199254740992) (X := 9218868437227405312) (by omega) (by omega) (by omega) (by omega)
  rw [this, show 2098 + kb = 53 + (2045 + kb) by omega, Nat.pow_add _ 53]
theorem blen_szR {V : Nat} {e : Int} (hV : V ≠ 0) (h1 : -1073741824 ≤ e) (h2 : e ≤ 1073741824) : (blen (sz V e) : Int) = rtop V e + 1 + 2147483648 := by
  rw [blen_sz e hV, topD, held_id h1 h2]; rfl
theorem small_iff {V : Nat} {e : Int} (hV : V ≠ 0) (h1 : -1073741824 ≤ e) (h2 : e ≤ 1073741824) : rtop V e < -1022 ↔ sz V e < vX 4503599627370496 := by
  rw [vX_norm, ← blen_le_iff]
  have := blen_szR hV h1 h2
  have := kb_eq
  omega
theorem great_iff {V : Nat} {e : Int} (hV : V ≠ 0) (h1 : -1073741824 ≤ e) (h2 : e ≤ 1073741824) : 1023 < rtop V e ↔ vX 9218868437227405312 ≤ sz V e := by
  rw [vX_inf, ← Nat.not_lt, ← blen_le_iff]
  have := blen_szR hV h1 h2
  have := kb_eq
  omega

theorem low_is {V : Nat} {e : Int} (hV : V ≠ 0) (h1 : -1073741824 ≤ e) (h2 : e ≤ 1073741824) : IsLow (sz V e) (lowX V e) := by
  unfold lowX
  by_cases ht : 1023 < rtop V e
  · rw [if_pos ht]
    exact ⟨Nat.le_refl _, (great_iff hV h1 h2).1 ht, fun h => absurd h (by omega)⟩
  · rw [if_neg ht]
    obtain ⟨a, b, c, _, _⟩ := rnd_low hV h1 h2 (by omega)
    exact ⟨by omega, b, fun _ => c⟩
theorem rndO_S {V : Nat} {e : Int} (g more : Bool) (dir : Int) {X : Nat} (hV : V ≠ 0) (h1 : -1073741824 ≤ e) (h2 : e ≤ 1073741824) (hX : IsLow (sz V e) X) : rndO g V e more dir = rndS g (sz V e) more dir X := by
  obtain rfl := hX.uniq (low_is hV h1 h2)
  unfold rndO rndS lowX
  by_cases ht : 1023 < rtop V e
  · rw [if_pos ht, if_pos ht, if_pos rfl]
  · obtain ⟨a, b, c, d, f⟩ := rnd_low hV h1 h2 (by omega)
    rw [if_neg ht, if_neg ht, if_neg (by omega), d, f]
    congr 1
    rw [decide_eq_decide]
    exact small_iff hV h1 h2

end Go.Proofs.YtgacafdkhailmaaDoor
