/- RnMath, RnCut, RnTo, RnRef, RnAll, RnDo, RnOrd, FpMath, FpSums, FpLink, FpOps, FpProds, FpRnd, FpMul, FpPairs: joined. -/
import Derived.Test.YtfccpjjdemanbaaJ1
import Derived.Test.YtfccpjjdemanbaaLimbs
import Derived.Laws.FloatArith
/- Rounding, as plain mathematics: the size that bits are worth, which bits lie below a size, what a number is rounded to; by the program's way (rndO) and by sizes (rndS). -/
namespace Go.Proofs.Ytfccpjjdemanbaa

/-- Where the least unit lies: a number that nothing reckons with. -/
noncomputable def kb : Nat := Classical.choose (⟨2147482574, rfl⟩ : ∃ k : Nat, k = 2147482574)
theorem kb_eq : kb = 2147482574 := Classical.choose_spec (⟨2147482574, rfl⟩ : ∃ k : Nat, k = 2147482574)
/-- The size of bits without a sign; infinity's is 2^1024. -/
noncomputable def vX (X : Nat) : Nat := fm X * 2 ^ (fE X + kb)

theorem vX_parts {L U X : Nat} (hX : X = L * 4503599627370496 + U) (hU : U ≤ 9007199254740992) (h2 : 0 < L → 4503599627370496 ≤ U) (hL : L ≤ 2045) : vX X = U * 2 ^ (L + kb) := by
  unfold vX
  rcases Nat.lt_or_ge U 4503599627370496 with h | h
  · have hL0 : L = 0 := by omega
    subst hL0
    have e1 : fex X = 0 := by unfold fex; omega
    have e2 : ffr X = U := by unfold ffr; omega
    rw [fm, if_pos e1, e2, fE, e1]
  · rcases Nat.lt_or_ge U 9007199254740992 with h' | h'
    · have e1 : fex X = L + 1 := by unfold fex; omega
      have e2 : ffr X = U - 4503599627370496 := by unfold ffr; omega
      rw [fm, if_neg (by omega), e2, fE, e1, Nat.add_sub_cancel, Nat.sub_add_cancel h]
    · have e0 : U = 9007199254740992 := by omega
      subst e0
      have e1 : fex X = L + 2 := by unfold fex; omega
      have e2 : ffr X = 0 := by unfold ffr; omega
      rw [fm, if_neg (by omega), e2, fE, e1, show L + 2 - 1 + kb = (L + kb) + 1 by omega, Nat.pow_succ]
      generalize 2 ^ (L + kb) = D
      omega
/-- The bits' own parts. -/
theorem x_parts {X : Nat} (h : X < 9218868437227405312) : X = fE X * 4503599627370496 + fm X ∧ fm X < 9007199254740992 ∧ (0 < fE X → 4503599627370496 ≤ fm X) ∧ fE X ≤ 2045 := by
  obtain ⟨p1, p2, p3, p4⟩ := f_parts X
  have hf : Fnt X := by unfold Fnt fex; omega
  exact ⟨by omega, p2, p3, p4 hf⟩
theorem vX_next {X : Nat} (h : X < 9218868437227405312) : vX (X + 1) = vX X + 2 ^ (fE X + kb) := by
  obtain ⟨p1, p2, p3, p4⟩ := x_parts h
  have h1 := vX_parts (L := fE X) (U := fm X + 1) (X := X + 1) (by omega) (by omega) (by omega) p4
  rw [h1, Nat.add_mul, Nat.one_mul]; rfl
theorem vX_lt {X : Nat} (h : X < 9218868437227405312) : vX X < vX (X + 1) := by
  rw [vX_next h]; exact Nat.lt_add_of_pos_right (Nat.two_pow_pos _)
theorem vX_mono {X d : Nat} (h : X + d ≤ 9218868437227405312) : vX X ≤ vX (X + d) := by
  induction d with
  | zero => exact Nat.le_refl _
  | succ d ih =>
    have h1 := ih (by omega)
    have h2 := vX_lt (X := X + d) (by omega)
    rw [← Nat.add_assoc]
    omega
theorem vX_le {X Y : Nat} (h : X ≤ Y) (hY : Y ≤ 9218868437227405312) : vX X ≤ vX Y := by
  have := vX_mono (X := X) (d := Y - X) (by omega)
  rwa [Nat.add_sub_cancel' h] at this

/-- The greatest bits that are worth at most S. -/
def IsLow (S X : Nat) : Prop := X ≤ 9218868437227405312 ∧ vX X ≤ S ∧ (X < 9218868437227405312 → S < vX (X + 1))
theorem IsLow.not_lt {S X Y : Nat} (hX : IsLow S X) (hY : IsLow S Y) : ¬ X < Y := by
  intro h
  have h1 := hX.2.2 (by have := hY.1; omega)
  have h2 := vX_le (X := X + 1) (Y := Y) h hY.1
  have h3 := hY.2.1
  omega
theorem IsLow.uniq {S X Y : Nat} (hX : IsLow S X) (hY : IsLow S Y) : X = Y := by
  have h1 := hX.not_lt hY
  have h2 := hY.not_lt hX
  omega
theorem IsLow.mono {S T X Y : Nat} (hX : IsLow S X) (hY : IsLow T Y) (h : S ≤ T) : X ≤ Y := by
  rcases Nat.lt_or_ge Y X with h' | h'
  · have h1 := hY.2.2 (by have := hX.1; omega)
    have h2 := vX_le (X := Y + 1) (Y := X) h' hX.1
    have h3 := hX.2.1
    omega
  · exact h'

/-- Does a size go up to the next unit? -/
def awy (g : Bool) (dir : Int) (odd half below : Bool) : Bool :=
  if dir = 0 then half && (below || odd) else if dir = 2 then !g && (half || below) else if dir = 3 then g && (half || below) else false
theorem awy_all {g : Bool} {dir : Int} {odd half below : Bool} (h : awy g dir odd half below = true) : awy g dir true true true = true := by
  unfold awy at *
  split
  · rfl
  · rename_i h0
    rw [if_neg h0] at h
    split
    · rename_i h1; rw [if_pos h1] at h; revert h; cases g <;> simp
    · rename_i h1
      rw [if_neg h1] at h
      split
      · rename_i h2; rw [if_pos h2] at h; revert h; cases g <;> simp
      · rename_i h2; rw [if_neg h2] at h; exact h
theorem awy_exact (g : Bool) (dir : Int) (odd : Bool) : awy g dir odd false false = false := by
  unfold awy
  cases g <;> simp

def sgn (g : Bool) (X : Nat) : Nat := (if g then 9223372036854775808 else 0) + X
def overM (g : Bool) (dir : Int) : Nat := if awy g dir true true true then 9218868437227405312 else 9218868437227405311
def overO (g : Bool) (dir : Int) : Nat × Nat := (sgn g (overM g dir), 5)
def upX (g : Bool) (dir : Int) (X : Nat) (half below : Bool) : Nat := X + (awy g dir (decide (X % 2 = 1)) half below).toNat
def fl (half below small : Bool) : Nat := if half || below then (if small then 3 else 1) else 0
/-- What comes of the bits below it. -/
def rfin (g : Bool) (dir : Int) (X : Nat) (half below small : Bool) : Nat × Nat :=
  if upX g dir X half below = 9218868437227405312 then overO g dir else (sgn g (upX g dir X half below), fl half below small)

def rtop (V : Nat) (e : Int) : Int := (blen V : Int) - 1 + e
def ru (V : Nat) (e : Int) : Int := max (rtop V e - 52) (-1074)
def rU (V : Nat) (e u : Int) : Nat := if u ≤ e then V * 2 ^ (e - u).toNat else V / 2 ^ (u - e - 1).toNat / 2
def rH (V : Nat) (e u : Int) : Bool := if u ≤ e then false else decide (V / 2 ^ (u - e - 1).toNat % 2 = 1)
def rB (V : Nat) (e u : Int) : Bool := if u ≤ e then false else decide (V % 2 ^ (u - e - 1).toNat ≠ 0)
def rX (V : Nat) (e : Int) : Nat := (ru V e + 1074).toNat * 4503599627370496 + rU V e (ru V e)
def lowX (V : Nat) (e : Int) : Nat := if 1023 < rtop V e then 9218868437227405312 else rX V e
/-- By the program's way: of a number that isn't 0. -/
def rndO (g : Bool) (V : Nat) (e : Int) (more : Bool) (dir : Int) : Nat × Nat :=
  if 1023 < rtop V e then overO g dir else
  rfin g dir (rX V e) (rH V e (ru V e)) (rB V e (ru V e) || more) (decide (rtop V e < -1022))
/-- By sizes. -/
noncomputable def hS (S X : Nat) : Bool := decide (vX X + vX (X + 1) ≤ 2 * S)
noncomputable def bS (S X : Nat) : Bool := decide (S ≠ vX X ∧ 2 * S ≠ vX X + vX (X + 1))
noncomputable def rndS (g : Bool) (S : Nat) (more : Bool) (dir : Int) (X : Nat) : Nat × Nat :=
  if X = 9218868437227405312 then overO g dir else rfin g dir X (hS S X) (bS S X || more) (decide (S < vX 4503599627370496))

theorem cut_facts {P Q U h b V : Nat} (hP : 0 < P) (hh : h < 2) (hb : b < Q) (hV : V = (2 * U + h) * Q + b) :
    U * (2 * Q * P) ≤ V * P ∧ V * P < (U + 1) * (2 * Q * P) ∧ (U * (2 * Q * P) + (U + 1) * (2 * Q * P) ≤ 2 * (V * P) ↔ h = 1) ∧
    (V * P = U * (2 * Q * P) ↔ h = 0 ∧ b = 0) ∧ (2 * (V * P) = U * (2 * Q * P) + (U + 1) * (2 * Q * P) ↔ h = 1 ∧ b = 0) := by
  have e1 : U * (2 * Q * P) = (U * Q * 2) * P := by rw [← Nat.mul_assoc, ← Nat.mul_assoc, Nat.mul_right_comm U 2 Q]
  have e2 : (U + 1) * (2 * Q * P) = (U * Q * 2 + 2 * Q) * P := by rw [Nat.add_mul, e1, Nat.one_mul, ← Nat.add_mul]
  have e3 : V = U * Q * 2 + h * Q + b := by rw [hV, Nat.add_mul, Nat.mul_comm 2 U, Nat.mul_right_comm U 2 Q]
  have e4 : 2 * (V * P) = (2 * V) * P := (Nat.mul_assoc _ _ _).symm
  rw [e1, e2, e4, ← Nat.add_mul]
  have c1 : ∀ x y : Nat, x * P ≤ y * P ↔ x ≤ y := fun x y => Nat.mul_le_mul_right_iff hP
  have c2 : ∀ x y : Nat, x * P < y * P ↔ x < y := fun x y => Nat.mul_lt_mul_right hP
  have c3 : ∀ x y : Nat, x * P = y * P ↔ x = y := fun x y => ⟨fun h => Nat.eq_of_mul_eq_mul_right hP h, fun h => by rw [h]⟩
  rw [c1, c2, c1, c3, c3]
  generalize U * Q = A at *
  have hh' : h = 0 ∨ h = 1 := by omega
  rcases hh' with rfl | rfl
  · rw [Nat.zero_mul] at e3
    omega
  · rw [Nat.one_mul] at e3
    omega

theorem sh_eq {e : Int} (h1 : -1073741824 ≤ e) (h2 : e ≤ 1073741824) : (sh e : Int) = e + 2147483648 := by rw [sh_held, held_id h1 h2]

/-- The program's way is that of sizes. -/
theorem rnd_low {V : Nat} {e : Int} (hV : V ≠ 0) (h1 : -1073741824 ≤ e) (h2 : e ≤ 1073741824) (ht : rtop V e ≤ 1023) :
    rX V e < 9218868437227405312 ∧ vX (rX V e) ≤ sz V e ∧ sz V e < vX (rX V e + 1) ∧ rH V e (ru V e) = hS (sz V e) (rX V e) ∧ rB V e (ru V e) = bS (sz V e) (rX V e) := by
  have hB := blen_pos hV
  have hlt := lt_blen V
  have hge := blen_le hV
  obtain ⟨u, hu⟩ : ∃ u, ru V e = u := ⟨_, rfl⟩
  obtain ⟨t, htt⟩ : ∃ t, rtop V e = t := ⟨_, rfl⟩
  have hu2 := hu
  unfold ru at hu2
  rw [htt] at hu2 ht
  unfold rtop at htt
  obtain ⟨L, hL⟩ : ∃ L : Nat, (u + 1074).toNat = L := ⟨_, rfl⟩
  have hL1 : u = (L : Int) - 1074 := by omega
  have hL2 : L ≤ 2045 := by omega
  have hsh := sh_eq h1 h2
  have hkb := kb_eq
  unfold rX
  rw [hu, hL]
  unfold sz
  by_cases hue : u ≤ e
  · obtain ⟨k, hk⟩ : ∃ k, (e - u).toNat = k := ⟨_, rfl⟩
    have hU : rU V e u = V * 2 ^ k := by rw [rU, if_pos hue, hk]
    have hbl := blen_shl (n := k) hV
    have hUle : V * 2 ^ k < 9007199254740992 := (blen_le_iff (k := 53)).1 (by rw [hbl]; omega)
    have hUge : 0 < L → 4503599627370496 ≤ V * 2 ^ k := fun h => by
      have h5 : blen (V * 2 ^ k) = 53 := by rw [hbl]; omega
      have h6 := blen_le (x := V * 2 ^ k) (fun h0 => by rw [h0] at h5; cases h5)
      rw [h5] at h6
      exact h6
    have hS : V * 2 ^ sh e = V * 2 ^ k * 2 ^ (L + kb) := by rw [Nat.mul_assoc, ← Nat.pow_add]; congr 2; omega
    rw [hU, hS]
    have v1 := vX_parts (L := L) (U := V * 2 ^ k) rfl (by omega) hUge hL2
    have v2 := vX_parts (L := L) (U := V * 2 ^ k + 1) (X := L * 4503599627370496 + V * 2 ^ k + 1) (by omega) (by omega) (fun h => by have := hUge h; omega) hL2
    have hp := Nat.two_pow_pos (L + kb)
    rw [hS] at *
    unfold Go.Proofs.Ytfccpjjdemanbaa.hS Go.Proofs.Ytfccpjjdemanbaa.bS
    rw [v1, v2, rH, if_pos hue, rB, if_pos hue]
    generalize V * 2 ^ k = U at *
    generalize 2 ^ (L + kb) = D at *
    rw [Nat.add_mul, Nat.one_mul]
    generalize U * D = Z at *
    exact ⟨by omega, Nat.le_refl _, by omega, (decide_eq_false (by omega)).symm, (decide_eq_false (by omega)).symm⟩
  · obtain ⟨k, hk⟩ : ∃ k, (u - e - 1).toNat = k := ⟨_, rfl⟩
    have hU : rU V e u = V / 2 ^ k / 2 := by rw [rU, if_neg hue, hk]
    have hdiv : V / 2 ^ k / 2 = V / 2 ^ (k + 1) := by rw [Nat.div_div_eq_div_mul, Nat.pow_succ]
    have hUle : V / 2 ^ (k + 1) < 9007199254740992 := by
      rw [Nat.div_lt_iff_lt_mul (Nat.two_pow_pos _), show (9007199254740992 : Nat) = 2 ^ 53 from by decide, ← Nat.pow_add]
      exact blen_le_iff.1 (by omega)
    have hUge : 0 < L → 4503599627370496 ≤ V / 2 ^ (k + 1) := fun h => by
      rw [Nat.le_div_iff_mul_le (Nat.two_pow_pos _), show (4503599627370496 : Nat) = 2 ^ 52 from by decide, ← Nat.pow_add, show 52 + (k + 1) = blen V - 1 by omega]
      exact hge
    rw [← hdiv] at hUle hUge
    have hD : 2 ^ (L + kb) = 2 * 2 ^ k * 2 ^ sh e := by
      rw [show L + kb = (k + 1) + sh e by omega, Nat.pow_add, Nat.pow_succ, Nat.mul_comm (2 ^ k) 2]
    rw [hU]
    have v1 := vX_parts (L := L) (U := V / 2 ^ k / 2) rfl (by omega) hUge hL2
    have v2 := vX_parts (L := L) (U := V / 2 ^ k / 2 + 1) (X := L * 4503599627370496 + V / 2 ^ k / 2 + 1) (by omega) (by omega) (fun h => by have := hUge h; omega) hL2
    have hb := Nat.mod_lt V (Nat.two_pow_pos k)
    have hVV : V = (2 * (V / 2 ^ k / 2) + V / 2 ^ k % 2) * 2 ^ k + V % 2 ^ k := by
      rw [Nat.div_add_mod]
      have := Nat.div_add_mod V (2 ^ k)
      rw [Nat.mul_comm] at this
      exact this.symm
    obtain ⟨f1, f2, f3, f4, f5⟩ := cut_facts (P := 2 ^ sh e) (Q := 2 ^ k) (U := V / 2 ^ k / 2) (h := V / 2 ^ k % 2) (b := V % 2 ^ k) (V := V) (Nat.two_pow_pos _) (Nat.mod_lt _ (by decide)) hb hVV
    rw [← hD] at f1 f2 f3 f4 f5
    unfold Go.Proofs.Ytfccpjjdemanbaa.hS Go.Proofs.Ytfccpjjdemanbaa.bS
    rw [v1, v2, rH, if_neg hue, rB, if_neg hue, hk]
    refine ⟨by omega, f1, f2, ?_, ?_⟩
    · rw [decide_eq_decide]; exact f3.symm
    · rw [decide_eq_decide]
      constructor
      · intro h
        exact ⟨fun h' => h (f4.1 h').2, fun h' => h (f5.1 h').2⟩
      · rintro ⟨ha, hb'⟩ h0
        have h3 := Nat.mod_lt (V / 2 ^ k) (show 0 < 2 by decide)
        have h4 : V / 2 ^ k % 2 = 0 ∨ V / 2 ^ k % 2 = 1 := by omega
        rcases h4 with h4 | h4
        · exact ha (f4.2 ⟨h4, h0⟩)
        · exact hb' (f5.2 ⟨h4, h0⟩)

theorem vX_norm : vX 4503599627370496 = 2 ^ (52 + kb) := by
  have := vX_parts (L := 0) (U := 4503599627370496) (X := 4503599627370496) (by omega) (by omega) (by omega) (by omega)
  rw [this, Nat.zero_add, Nat.pow_add]
theorem vX_inf : vX 9218868437227405312 = 2 ^ (2098 + kb) := by
  have := vX_parts (L := 2045) (U := 9007199254740992) (X := 9218868437227405312) (by omega) (by omega) (by omega) (by omega)
  rw [this, show 2098 + kb = 53 + (2045 + kb) by omega, Nat.pow_add _ 53]
theorem blen_szR {V : Nat} {e : Int} (hV : V ≠ 0) (h1 : -1073741824 ≤ e) (h2 : e ≤ 1073741824) : (blen (sz V e) : Int) = rtop V e + 1 + 2147483648 := by
  rw [blen_sz e hV, topD, held_id h1 h2]; rfl
theorem small_iff {V : Nat} {e : Int} (hV : V ≠ 0) (h1 : -1073741824 ≤ e) (h2 : e ≤ 1073741824) : rtop V e < -1022 ↔ sz V e < vX 4503599627370496 := by
  rw [vX_norm, ← blen_le_iff]
  have := blen_szR hV h1 h2
  have := kb_eq
  omega
theorem great_iff {V : Nat} {e : Int} (hV : V ≠ 0) (h1 : -1073741824 ≤ e) (h2 : e ≤ 1073741824) : 1023 < rtop V e ↔ vX 9218868437227405312 ≤ sz V e := by
  rw [vX_inf, ← Nat.not_lt, ← blen_le_iff]
  have := blen_szR hV h1 h2
  have := kb_eq
  omega

theorem low_is {V : Nat} {e : Int} (hV : V ≠ 0) (h1 : -1073741824 ≤ e) (h2 : e ≤ 1073741824) : IsLow (sz V e) (lowX V e) := by
  unfold lowX
  by_cases ht : 1023 < rtop V e
  · rw [if_pos ht]
    exact ⟨Nat.le_refl _, (great_iff hV h1 h2).1 ht, fun h => absurd h (by omega)⟩
  · rw [if_neg ht]
    obtain ⟨a, b, c, _, _⟩ := rnd_low hV h1 h2 (by omega)
    exact ⟨by omega, b, fun _ => c⟩
theorem rndO_S {V : Nat} {e : Int} (g more : Bool) (dir : Int) {X : Nat} (hV : V ≠ 0) (h1 : -1073741824 ≤ e) (h2 : e ≤ 1073741824) (hX : IsLow (sz V e) X) : rndO g V e more dir = rndS g (sz V e) more dir X := by
  obtain rfl := hX.uniq (low_is hV h1 h2)
  unfold rndO rndS lowX
  by_cases ht : 1023 < rtop V e
  · rw [if_pos ht, if_pos ht, if_pos rfl]
  · obtain ⟨a, b, c, d, f⟩ := rnd_low hV h1 h2 (by omega)
    rw [if_neg ht, if_neg ht, if_neg (by omega), d, f]
    congr 1
    rw [decide_eq_decide]
    exact small_iff hV h1 h2

end Go.Proofs.Ytfccpjjdemanbaa
/- The walks of round.known, away, signed, raised, Over, Under, up, cut, count. -/
namespace Go.Proofs.Ytfccpjjdemanbaa
open Go.RowKit



theorem or_sign' (X : Nat) (hX : X < 9223372036854775808) : bits BinOp.or IntKind.u64 (X : Int) 9223372036854775808 = ((9223372036854775808 + X : Nat) : Int) := by
  have h := bits_or_u64_nat X 9223372036854775808 (by omega) (by decide)
  have h2 : X ||| 9223372036854775808 = 9223372036854775808 + X := by
    rw [Nat.or_comm]; exact (Nat.shiftLeft_add_eq_or_of_lt (i := 63) (b := X) (show X < 2 ^ 63 from hX) 1).symm
  rw [h2] at h
  exact h




/-- Noughts made, and limbs behind them. -/
theorem app_zeros64 (w : World) (A : Option Addr) (n c q : Nat) (ds : List Nat) (hA : Row .u64 w A n c ds) (hn : n ≤ 4294967296) (hq : q ≤ 1000000) :
    ∃ A' c' w', (Builtin.append_ #[60, 60] 60 #[.slice (some ⟨w.heap.size, 0, none⟩) q q, .slice A n c]).run Try.prog (w.alloc (.cells (madeCells #[.int .u64 0] q) 22)) = .ok (.slice A' (q + n) c') w' ∧
      Row .u64 w' A' (q + n) c' (List.replicate q 0 ++ ds) ∧ Below w.heap.size w w' := by
  have hb : Below w.heap.size w (w.alloc (.cells (madeCells #[.int .u64 0] q) 22)) := (Below.refl _ _).alloc (Nat.le_refl _) _
  have hown : Own .u64 22 (w.alloc (.cells (madeCells #[.int .u64 0] q) 22)) w.heap.size (.slice (some ⟨w.heap.size, 0, none⟩) q q) (List.replicate q 0) := by
    refine ⟨by simp, Or.inr ⟨w.heap.size, q, madeCells #[.int .u64 0] q, by simp, Nat.le_refl _, heap_alloc_new w _, by simp, by unfold maxLen; omega, by rw [size_madeCells]; omega, ?_⟩⟩
    have hr := World.rowIs_made w (.int .u64 0) q 22
    apply List.ext_getElem?
    intro k
    by_cases hk : k < q
    · have hc := hr.cell hk
      rw [cell_of_row _ w.heap.size k (madeCells #[.int .u64 0] q) 22 (0, 0) (heap_alloc_new w _)] at hc
      rw [List.getElem?_take_of_lt (by simpa using hk), Array.getElem?_toList, hc, List.getElem?_map, List.getElem?_replicate, if_pos hk]
      rfl
    · rw [List.getElem?_eq_none (by rw [List.length_take, List.length_replicate]; omega), List.getElem?_eq_none (by simp; omega)]
  obtain ⟨v', w', hrun, ho, hb'⟩ := run_app (P := Try.prog) (T := 60) (ty := 60) Try.underlying60 info64 hown (hA.below hb) hb.size (by simp; omega) (by simp; omega)
  obtain ⟨A1, c1, rfl, hr⟩ := ho.row
  have el : (List.replicate q 0 ++ ds).length = q + n := by rw [List.length_append, List.length_replicate, hA.len]
  rw [el] at hrun hr
  exact ⟨A1, c1, w', hrun, hr, hb.trans hb'⟩


end Go.Proofs.Ytfccpjjdemanbaa
/- The walks of round.cut, count, laid. -/
namespace Go.Proofs.Ytfccpjjdemanbaa
open Go.RowKit

theorem quiet_one {P : Program} {f : FuncId} {args : Array Value} {w : World} {n : Nat} {v : Value}
    (h : Calls P f args (w.drewN n) fun e w' => e = .returned v ∧ w.drewN n = w') : Calls P f args (w.drewN n) fun e w'' => e = .returned v ∧ ∃ m, w'' = w.drewN m :=
  h.mono fun _ _ ⟨he, hm⟩ => ⟨he, n, hm.symm⟩
/-- A number and two values. -/
def TellsC (w : World) (V L : Nat) (p q : Bool) (e : Ending) (w' : World) : Prop :=
  ∃ A m c zs, e = .returned (.tuple #[.slice A m c, .bool p, .bool q]) ∧ m ≤ L ∧ Lim w' A m c zs ∧ Bare zs ∧ val zs = V ∧ Below w.heap.size w w'



end Go.Proofs.Ytfccpjjdemanbaa
/- The document's numbers: planimeterref05.Sign, Top, Add. -/
namespace Go.Proofs.Ytfccpjjdemanbaa
open Go.RowKit

theorem dnil_iff {w : World} {A : Option Addr} {n c : Nat} {ds : List Nat} (h : Dig w A n c ds) (hb : D.Bare ds) : n = 0 ↔ D.val ds = 0 := by
  rw [← D.tl_zero_iff, hb, h.len]

theorem rsign_l (v : Int) (g : Bool) (A : Option Addr) (n c : Nat) (ds : List Nat) (e0 : Int) (w : World) (hA : Dig w A n c ds) (hb : D.Bare ds) (hv : Hid (sgD g (D.val ds) = v)) :
    Calls Try.prog 46 #[.agg #[.bool g, .slice A n c, .int .i64 e0]] w fun e w' => e = .returned (.int .i64 v) ∧ Below w.heap.size w w' := by
  have H1 := Lib.hid (below1 w (.cells #[.bool g, .slice A n c, .int .i64 e0] 29))
  have hv' := hv.out
  have hz := dnil_iff hA hb
  unfold sgD at hv'
  clear hv hA hb
  by_cases h0 : D.val ds = 0
  · rw [if_pos h0] at hv'
    subst hv'
    obtain rfl := hz.2 h0
    clear hz h0
    go_enter Try.func46, Try.ntmps46
    go_wp2
    go_ret
    exact ⟨rfl, H1.out⟩
  · rw [if_neg h0] at hv'
    have c1 : ((n : Int) == 0) = false := beq_no (by omega)
    clear hz h0
    cases g <;> subst hv' <;> (
      go_enter Try.func46, Try.ntmps46
      go_wp2
      go_ret
      exact ⟨rfl, H1.out⟩)

theorem rtop_l (v : Int) (g : Bool) (A : Option Addr) (n c : Nat) (ds : List Nat) (e0 : Int) (w : World) (hA : Dig w A n c ds) (hb : D.Bare ds) (hn : n ≤ 1000000) (h1 : -4294967296 ≤ e0) (h2 : e0 ≤ 4294967296) (hv : Hid (rtop (D.val ds) e0 = v)) :
    Calls Try.prog 21 #[.agg #[.bool g, .slice A n c, .int .i64 e0]] w fun e w' => e = .returned (.int .i64 v) ∧ Below w.heap.size w w' := by
  have a1 := below1 w (.cells #[.bool g, .slice A n c, .int .i64 e0] 29)
  have hlt := D.val_lt hA.words
  rw [hA.len, D.pw_two] at hlt
  have hbl : blen (D.val ds) ≤ 16 * n := blen_le_iff.2 hlt
  have H2 := fun q => rbits_any A n c ds ((w.alloc (.cells #[.bool g, .slice A n c, .int .i64 e0] 29)).drewN q) ((hA.below a1).drewN q) hb hn
  have hv' : (blen (D.val ds) : Int) - 1 + e0 = v := hv.out
  generalize blen (D.val ds) = B at *
  have H2 := Lib.hid H2
  have HS := Lib.hid a1
  have HV := Lib.hid hv'
  have hw : IntKind.i64.wrap ((B : Int) - 1 + e0) = (B : Int) - 1 + e0 := by rw [IntKind.wrap_i64]; omega
  clear hA hb a1 hlt hv hv'
  go_enter Try.func21, Try.ntmps21
  go_wp2
  go_quiet ((go_at_call 19; exact quiet_one (H2.out _)))
  go_wp2
  go_ret
  exact ⟨ret_int HV.out, below_drewN HS.out _⟩

/-- Two numbers of the document, in their boxes. -/
def HN (w0 : World) (b1 : Nat) (g : Bool) (A : Option Addr) (n c : Nat) (ds : List Nat) (e1 : Int) (b2 : Nat) (k : Bool) (B : Option Addr) (m d : Nat) (es : List Nat) (e2 : Int) (w : World) : Prop :=
  Bd w b1 29 g A n c e1 ∧ Bd w b2 29 k B m d e2 ∧ Dig w A n c ds ∧ Dig w B m d es ∧ Below w0.heap.size w0 w
abbrev CellsN (w0 : World) (b1 : Nat) (g : Bool) (A : Option Addr) (n c : Nat) (ds : List Nat) (e1 : Int) (b2 : Nat) (k : Bool) (B : Option Addr) (m d : Nat) (es : List Nat) (e2 : Int) (w' : World) : Prop :=
  w'.cell? ⟨b1, 0, none⟩ = some (.bool g) ∧ w'.cell? ⟨b1, 1, none⟩ = some (.slice A n c) ∧ w'.cell? ⟨b1, 2, none⟩ = some (.int .i64 e1) ∧ w'.cell? ⟨b2, 0, none⟩ = some (.bool k) ∧ w'.cell? ⟨b2, 1, none⟩ = some (.slice B m d) ∧ w'.cell? ⟨b2, 2, none⟩ = some (.int .i64 e2) ∧ Hid (HN w0 b1 g A n c ds e1 b2 k B m d es e2 w')
section
variable {w0 : World} {b1 : Nat} {g : Bool} {A : Option Addr} {n c : Nat} {ds : List Nat} {e1 : Int} {b2 : Nat} {k : Bool} {B : Option Addr} {m d : Nat} {es : List Nat} {e2 : Int} {w w' : World}
theorem HN.below (h : HN w0 b1 g A n c ds e1 b2 k B m d es e2 w) (hb : Below w.heap.size w w') : HN w0 b1 g A n c ds e1 b2 k B m d es e2 w' := by
  obtain ⟨h1, h2, h3, h4, h5⟩ := h
  exact ⟨h1.below hb, h2.below hb, h3.below hb, h4.below hb, h5.trans (hb.mono h5.size)⟩
theorem HN.cells (h : HN w0 b1 g A n c ds e1 b2 k B m d es e2 w) : CellsN w0 b1 g A n c ds e1 b2 k B m d es e2 w := ⟨h.1.c0, h.1.c1, h.1.c2, h.2.1.c0, h.2.1.c1, h.2.1.c2, h⟩
end
theorem HN.start (w : World) (g : Bool) (A : Option Addr) (n c : Nat) (ds : List Nat) (e1 : Int) (k : Bool) (B : Option Addr) (m d : Nat) (es : List Nat) (e2 : Int) (hA : Dig w A n c ds) (hB : Dig w B m d es) :
    HN w w.heap.size g A n c ds e1 (w.heap.size + 1) k B m d es e2 ((w.alloc (.cells #[.bool g, .slice A n c, .int .i64 e1] 29)).alloc (.cells #[.bool k, .slice B m d, .int .i64 e2] 29)) := by
  have a3 : Below w.heap.size w ((w.alloc (.cells #[.bool g, .slice A n c, .int .i64 e1] 29)).alloc (.cells #[.bool k, .slice B m d, .int .i64 e2] 29)) := ((Below.refl _ _).alloc (Nat.le_refl _) _).alloc (by simp) _
  have b1 := (Bd.new w 29 g A n c e1).alloc (.cells #[.bool k, .slice B m d, .int .i64 e2] 29)
  have b2 := Bd.new (w.alloc (.cells #[.bool g, .slice A n c, .int .i64 e1] 29)) 29 k B m d e2
  rw [World.size_alloc] at b2
  exact ⟨b1, b2, hA.below a3, hB.below a3, a3⟩
theorem HN.start3 (w : World) (g : Bool) (A : Option Addr) (n c : Nat) (ds : List Nat) (e1 : Int) (k : Bool) (B : Option Addr) (m d : Nat) (es : List Nat) (e2 : Int) (hA : Dig w A n c ds) (hB : Dig w B m d es) :
    HN w w.heap.size g A n c ds e1 (w.heap.size + 1) k B m d es e2 (((w.alloc (.cells #[.bool g, .slice A n c, .int .i64 e1] 29)).alloc (.cells #[.bool k, .slice B m d, .int .i64 e2] 29)).alloc (.cells #[.bool false, .slice none 0 0, .int .i64 0] 29)) ∧
    Bd (((w.alloc (.cells #[.bool g, .slice A n c, .int .i64 e1] 29)).alloc (.cells #[.bool k, .slice B m d, .int .i64 e2] 29)).alloc (.cells #[.bool false, .slice none 0 0, .int .i64 0] 29)) (w.heap.size + 1 + 1) 29 false none 0 0 0 := by
  have b3 := Bd.new ((w.alloc (.cells #[.bool g, .slice A n c, .int .i64 e1] 29)).alloc (.cells #[.bool k, .slice B m d, .int .i64 e2] 29)) 29 false none 0 0 0
  rw [World.size_alloc, World.size_alloc] at b3
  exact ⟨(HN.start w g A n c ds e1 k B m d es e2 hA hB).below (below1 _ _), b3⟩

/-- The first number is 0: the second one. -/
theorem radd_zero (g : Bool) (A : Option Addr) (c : Nat) (e1 : Int) (k : Bool) (B : Option Addr) (m d : Nat) (es : List Nat) (e2 : Int) (w : World) (hB : Dig w B m d es) (bb : D.Bare es) :
    Calls Try.prog 11 #[.agg #[.bool g, .slice A 0 c, .int .i64 e1], .agg #[.bool k, .slice B m d, .int .i64 e2]] w (NTold w ⟨k, D.val es, e2⟩ m) := by
  have h0 := (HN.start w g A 0 c [] e1 k B m d es e2 (Dig.nil _ _ _) hB).below (below1 _ (.cells #[.bool k, .slice B m d, .int .i64 e2] 29))
  have Hfin : Hid (NTold w ⟨k, D.val es, e2⟩ m (.returned (.agg #[.bool k, .slice B m d, .int .i64 e2])) (((w.alloc (.cells #[.bool g, .slice A 0 c, .int .i64 e1] 29)).alloc (.cells #[.bool k, .slice B m d, .int .i64 e2] 29)).alloc (.cells #[.bool k, .slice B m d, .int .i64 e2] 29))) :=
    ⟨B, m, d, es, rfl, Nat.le_refl _, h0.2.2.2.1, bb, rfl, h0.2.2.2.2⟩
  clear h0 hB bb
  go_enter Try.func11, Try.ntmps11
  go_wp2
  exact bodyPost_ret (v := .agg #[.bool k, .slice B m d, .int .i64 e2]) (by simp [results, Try.results11, go_sem]) rfl Hfin.out
end Go.Proofs.Ytfccpjjdemanbaa
/- The walks of round.laid, checked, To. -/
namespace Go.Proofs.Ytfccpjjdemanbaa
open Go.RowKit

theorem nO_shift (g : Bool) {V k : Nat} {e : Int} (h1 : -1073741824 ≤ e) (h2 : e + k ≤ 1073741824) (hV : V ≠ 0) : nO g (V * 2 ^ k) e = nO g V (e + k) := by
  have hV2 : V * 2 ^ k ≠ 0 := Nat.mul_ne_zero hV (Nat.pos_iff_ne_zero.1 (Nat.two_pow_pos _))
  obtain ⟨m, hm⟩ := low_spec (Nat.pos_of_ne_zero hV)
  have hl : low (V * 2 ^ k) = low V + k := low_eq (m := m) (by
    generalize low V = l at hm
    rw [hm, Nat.pow_add, Nat.mul_assoc, Nat.mul_comm (2 * m + 1), ← Nat.mul_assoc])
  rw [nO_pos g _ hV2, nO_pos g _ hV, held_id h1 (by omega), held_id (by omega) h2, hl, Nat.pow_add, Nat.mul_div_mul_right _ _ (Nat.two_pow_pos _)]
  congr 1
  omega
/-- So many units, as bits. -/
theorem ex_round {L U : Nat} {u : Int} (hu : u = (L : Int) - 1074) (hL : L ≤ 2045) (hU : U ≤ 9007199254740992) (h2 : 0 < L → 4503599627370496 ≤ U) :
    exD (nO false U u) = if L * 4503599627370496 + U = 9218868437227405312 then (0, false) else (L * 4503599627370496 + U, true) := by
  have own : ∀ (L' U' : Nat), L' ≤ 2045 → U' < 9007199254740992 → (0 < L' → 4503599627370496 ≤ U') → exD (nO false U' ((L' : Int) - 1074)) = (L' * 4503599627370496 + U', true) := by
    intro L' U' hL' hU' h2'
    obtain ⟨f1, f2, f3, f4, f5⟩ := f_of (L := L') (M := U') false (X := L' * 4503599627370496 + U') hU' h2' hL' (by simp)
    have hb := exD_back f1 f2
    unfold fO at hb
    rw [f3, f5, fe, f4] at hb
    rw [hb]
    split
    · rename_i h0
      have : L' = 0 := by
        rcases Nat.eq_zero_or_pos L' with h | h
        · exact h
        · have := h2' h; omega
      rw [h0, this]
    · rfl
  rcases Nat.lt_or_ge U 9007199254740992 with h | h
  · rw [if_neg (by omega), hu]
    exact own L U hL h h2
  · have e0 : U = 9007199254740992 := by omega
    subst e0
    have e1 : nO false 9007199254740992 u = nO false 4503599627370496 (((L + 1 : Nat) : Int) - 1074) := by
      have := nO_shift false (V := 4503599627370496) (k := 1) (e := u) (by omega) (by omega) (by decide)
      rw [show (4503599627370496 : Nat) * 2 ^ 1 = 9007199254740992 from by decide] at this
      rw [this]
      congr 1
      omega
    rcases Nat.lt_or_ge L 2045 with hL' | hL'
    · rw [if_neg (by omega), e1, own (L + 1) 4503599627370496 (by omega) (by decide) (fun _ => Nat.le_refl _), show (L + 1) * 4503599627370496 + 4503599627370496 = L * 4503599627370496 + 9007199254740992 by omega]
    · have e2 : L = 2045 := by omega
      subst e2
      rw [if_pos (by decide), e1]
      have e3 := nO_shift false (V := 1) (k := 52) (e := ((2045 + 1 : Nat) : Int) - 1074) (by decide) (by decide) (by decide)
      rw [show 1 * 2 ^ 52 = 4503599627370496 from by decide] at e3
      rw [e3]
      decide
theorem mk_units {U : Nat} {u : Int} (h1 : -1074 ≤ u) (h2 : u ≤ 971) (hU : U ≤ 9007199254740992) : mk false U u = some (nO false U u) := by
  rw [mk_nO]
  by_cases h0 : U = 0
  · subst h0; rfl
  · have hl := low_le_blen U
    have hb : blen U ≤ 54 := (blen_le_iff (k := 54)).2 (by omega)
    have hh : held u = u := held_id (by omega) (by omega)
    have hV : U / 2 ^ low U ≠ 0 := fun h => h0 (odd_part_zero.1 h)
    rw [nO_pos false u h0]
    show toldD false (U / 2 ^ low U) (held u + low U) = _
    rw [toldD, if_neg hV, if_neg (by omega)]
theorem nO_bd (U : Nat) (u : Int) (h1 : -1074 ≤ u) (h2 : u ≤ 971) (hU : U ≤ 9007199254740992) : nO (nO false U u).neg (nO false U u).V (nO false U u).e = nO false U u := by
  have hf := (mk_fine (mk_units h1 h2 hU)).1
  exact nO_self (nO_odd false U u) (by have := hf.1; omega) (by have := hf.2.1; omega)

/-- The units' place and number. -/
theorem ru_facts {V : Nat} {e : Int} (hV : V ≠ 0) (h1 : -1073741824 ≤ e) (h2 : e ≤ 1073741824) (ht : rtop V e ≤ 1023) :
    ∃ L : Nat, (ru V e + 1074).toNat = L ∧ ru V e = (L : Int) - 1074 ∧ L ≤ 2045 ∧ e ≤ ru V e + 63 ∧ rU V e (ru V e) < 9007199254740992 ∧ (0 < L → 4503599627370496 ≤ rU V e (ru V e)) := by
  obtain ⟨a, b, c, _, _⟩ := rnd_low hV h1 h2 ht
  have hB := blen_pos hV
  have hr : ru V e = max (rtop V e - 52) (-1074) := rfl
  have hrt : rtop V e = (blen V : Int) - 1 + e := rfl
  refine ⟨(ru V e + 1074).toNat, rfl, by omega, by omega, by omega, ?_⟩
  have hlt := lt_blen V
  have hge := blen_le hV
  generalize ru V e = u at hr ⊢
  rw [hrt] at hr ht
  clear a b c hrt
  by_cases hue : u ≤ e
  · obtain ⟨k, hk⟩ : ∃ k, (e - u).toNat = k := ⟨_, rfl⟩
    rw [rU, if_pos hue, hk]
    have hbl := blen_shl (n := k) hV
    refine ⟨(blen_le_iff (k := 53)).1 (by rw [hbl]; omega), fun h => ?_⟩
    have h5 : blen (V * 2 ^ k) = 53 := by rw [hbl]; omega
    have h6 := blen_le (x := V * 2 ^ k) (fun h0 => by rw [h0] at h5; cases h5)
    rw [h5] at h6
    exact h6
  · obtain ⟨k, hk⟩ : ∃ k, (u - e - 1).toNat = k := ⟨_, rfl⟩
    rw [rU, if_neg hue, hk, Nat.div_div_eq_div_mul, ← Nat.pow_succ]
    constructor
    · rw [Nat.div_lt_iff_lt_mul (Nat.two_pow_pos _), show (9007199254740992 : Nat) = 2 ^ 53 from by decide, ← Nat.pow_add]
      exact blen_le_iff.1 (by omega)
    · intro h
      rw [Nat.le_div_iff_mul_le (Nat.two_pow_pos _), show (4503599627370496 : Nat) = 2 ^ 52 from by decide, ← Nat.pow_add, show 52 + (k + 1) = blen V - 1 by omega]
      exact hge


end Go.Proofs.Ytfccpjjdemanbaa
/- The walks of round.checked and round.To. -/
namespace Go.Proofs.Ytfccpjjdemanbaa
open Go.RowKit

/-- What can be rounded. -/
def chk (o : Option Dy) (more : Bool) (dir : Int) : Option Dy :=
  if 0 ≤ dir ∧ dir ≤ 3 then (match o with | none => none | some d => if d.V = 0 ∧ more = true then none else some d) else none
def ChTold (w : World) (o : Option Dy) (L : Nat) (e : Ending) (w' : World) : Prop :=
  match o with
  | none => e = .returned (.tuple #[.agg #[.bool false, .slice none 0 0, .int .i64 0], .int .i64 1]) ∧ Below w.heap.size w w'
  | some d => ∃ A m c zs, e = .returned (.tuple #[.agg #[.bool d.neg, .slice A m c, .int .i64 d.e], .int .i64 0]) ∧ m ≤ L ∧ Lim w' A m c zs ∧ Bare zs ∧ val zs = d.V ∧ Below w.heap.size w w'


/-- What To tells. -/
def toR (g : Bool) (V : Nat) (e : Int) (more : Bool) (dir : Int) : Nat × Nat × Int :=
  match chk (mk g V e) more dir with
  | none => (0, 0, 1)
  | some d => if d.V = 0 then (0, 0, 0) else ((rndO d.neg d.V d.e more dir).1, (rndO d.neg d.V d.e more dir).2, 0)


end Go.Proofs.Ytfccpjjdemanbaa
/- Rounding keeps order; it is mirrored; what bits are worth stays; a little more is as a thousandth. -/
namespace Go.Proofs.Ytfccpjjdemanbaa
open Go.RowKit

theorem toldD_self {d : Dy} (h : Fine d) : toldD d.neg d.V d.e = some d := by
  obtain ⟨g, V, e⟩ := d
  unfold toldD
  by_cases h0 : V = 0
  · obtain ⟨h1, h2⟩ := h.2.2 h0
    simp only at h1 h2 h0 ⊢
    rw [if_pos h0, h1, h2, h0]
  · have h1 : -1073741824 ≤ e := h.1
    have h2 : e ≤ 1073741824 := h.2.1
    simp only
    rw [if_neg h0, if_neg (by omega)]
/-- What is bare stays. -/
theorem mk_self {g : Bool} {V : Nat} {e : Int} {d : Dy} (h : mk g V e = some d) : mk d.neg d.V d.e = some d := by
  have hf := (mk_fine h).1
  have hO : Odd d := by rw [← mk_is h]; exact nO_odd g V e
  have hs : nO d.neg d.V d.e = d := nO_self hO (by have := hf.1; omega) (by have := hf.2.1; omega)
  rw [mk_nO, hs]
  exact toldD_self hf
theorem mk_pos {g : Bool} {V : Nat} {e : Int} {d : Dy} (h : mk g V e = some d) (hV : V ≠ 0) : d.neg = g ∧ d.V ≠ 0 ∧ sz d.V d.e = sz V e := by
  obtain ⟨h1, h2, h3, _⟩ := mk_fine h
  have h4 := (toldD_fine h).2.2 (fun h0 => hV (odd_part_zero.1 h0))
  refine ⟨h4.1, fun h0 => hV (h3.1 h0), ?_⟩
  have h5 : ∀ (g : Bool) (V : Nat) (e : Int), (dw g V e).natAbs = sz V e := fun g V e => by cases g <;> simp [dw]
  rw [← h5 d.neg, ← h5 g, h2]

theorem toR_some {g : Bool} {V : Nat} {e : Int} {more : Bool} {dir : Int} {d : Dy} (hd : 0 ≤ dir ∧ dir ≤ 3) (h : mk g V e = some d) (hV : d.V ≠ 0) :
    toR g V e more dir = ((rndO d.neg d.V d.e more dir).1, (rndO d.neg d.V d.e more dir).2, 0) := by
  unfold toR chk
  rw [if_pos hd, h]
  simp only
  rw [if_neg (fun h0 => hV h0.1)]
  simp only
  rw [if_neg hV]
theorem toR_zero {g : Bool} {V : Nat} {e : Int} {dir : Int} {d : Dy} (hd : 0 ≤ dir ∧ dir ≤ 3) (h : mk g V e = some d) (hV : d.V = 0) : toR g V e false dir = (0, 0, 0) := by
  unfold toR chk
  rw [if_pos hd, h]
  simp only
  rw [if_neg (fun h0 => by cases h0.2)]
  simp only
  rw [if_pos hV]
/-- No error: the dyad can be bare. -/
theorem toR_ok {g : Bool} {V : Nat} {e : Int} {more : Bool} {dir : Int} {x f : Nat} (h : toR g V e more dir = (x, f, 0)) :
    ∃ d, mk g V e = some d ∧ (0 ≤ dir ∧ dir ≤ 3) ∧ ((d.V = 0 ∧ x = 0 ∧ f = 0) ∨ (d.V ≠ 0 ∧ rndO d.neg d.V d.e more dir = (x, f))) := by
  unfold toR at h
  cases hc : chk (mk g V e) more dir with
  | none => rw [hc] at h; simp at h
  | some d =>
    rw [hc] at h
    simp only at h
    unfold chk at hc
    split at hc
    · rename_i hd
      split at hc
      · cases hc
      · rename_i d' hd'
        split at hc
        · cases hc
        · obtain rfl := Option.some.inj hc
          refine ⟨d', hd', hd, ?_⟩
          by_cases h0 : d'.V = 0
          · rw [if_pos h0] at h
            obtain ⟨h1, h2⟩ := Prod.mk.inj h
            exact Or.inl ⟨h0, h1.symm, (Prod.mk.inj h2).1.symm⟩
          · rw [if_neg h0] at h
            obtain ⟨h1, h2⟩ := Prod.mk.inj h
            exact Or.inr ⟨h0, Prod.ext h1 (Prod.mk.inj h2).1⟩
    · cases hc

/-- The size of what comes out. -/
noncomputable def magS (g : Bool) (S : Nat) (dir : Int) (X : Nat) : Nat := if X = 9218868437227405312 then overM g dir else upX g dir X (hS S X) (bS S X || false)
theorem upX_inf {g : Bool} {dir : Int} {X : Nat} {h b : Bool} (hX : X ≠ 9218868437227405312) (hu : upX g dir X h b = 9218868437227405312) : overM g dir = 9218868437227405312 := by
  unfold upX at hu
  unfold overM
  cases ha : awy g dir (decide (X % 2 = 1)) h b with
  | false => rw [ha] at hu; exact absurd hu hX
  | true => rw [awy_all ha, if_pos rfl]
theorem rndS_mag (g : Bool) (S : Nat) (dir : Int) (X : Nat) : (rndS g S false dir X).1 = sgn g (magS g S dir X) := by
  unfold rndS magS
  by_cases h : X = 9218868437227405312
  · rw [if_pos h, if_pos h]; rfl
  · rw [if_neg h, if_neg h]
    unfold rfin
    by_cases hu : upX g dir X (hS S X) (bS S X || false) = 9218868437227405312
    · rw [if_pos hu, hu]
      show sgn g (overM g dir) = _
      rw [upX_inf h hu]
    · rw [if_neg hu]
theorem awy_none {g : Bool} {dir : Int} {o h b : Bool} (h0 : awy g dir true true true = false) : awy g dir o h b = false := by
  cases ha : awy g dir o h b with
  | false => rfl
  | true => rw [awy_all ha] at h0; cases h0
theorem overM_le (g : Bool) (dir : Int) : overM g dir ≤ 9218868437227405312 := by unfold overM; split <;> omega
theorem upX_le {g : Bool} {dir : Int} {X : Nat} {h b : Bool} : X ≤ upX g dir X h b ∧ upX g dir X h b ≤ X + 1 := by
  unfold upX; cases awy g dir (decide (X % 2 = 1)) h b <;> simp
theorem magS_le {g : Bool} {S : Nat} {dir : Int} {X : Nat} (hX : X ≤ 9218868437227405312) : magS g S dir X ≤ 9218868437227405312 := by
  unfold magS
  split
  · exact overM_le g dir
  · have := (upX_le (g := g) (dir := dir) (X := X) (h := hS S X) (b := (bS S X || false))).2
    omega
theorem magS_mono {g : Bool} {S T : Nat} {dir : Int} {X Y : Nat} (hX : IsLow S X) (hY : IsLow T Y) (h : S ≤ T) : magS g S dir X ≤ magS g T dir Y := by
  have hXY := hX.mono hY h
  have hYi := hY.1
  by_cases hYI : Y = 9218868437227405312
  · have e2 : magS g T dir Y = overM g dir := by unfold magS; rw [if_pos hYI]
    rw [e2]
    by_cases hXI : X = 9218868437227405312
    · have e1 : magS g S dir X = overM g dir := by unfold magS; rw [if_pos hXI]
      rw [e1]; exact Nat.le_refl _
    · cases ha : awy g dir true true true with
      | true =>
        have e3 : overM g dir = 9218868437227405312 := by unfold overM; rw [ha, if_pos rfl]
        rw [e3]; exact magS_le hX.1
      | false =>
        have e3 : overM g dir = 9218868437227405311 := by unfold overM; rw [ha]; rfl
        have e1 : magS g S dir X = X := by unfold magS upX; rw [if_neg hXI, awy_none ha]; rfl
        rw [e3, e1]; omega
  · have hXI : X ≠ 9218868437227405312 := by omega
    unfold magS
    rw [if_neg hYI, if_neg hXI]
    rcases Nat.lt_or_ge X Y with hlt | hge
    · have h1 := (upX_le (g := g) (dir := dir) (X := X) (h := hS S X) (b := (bS S X || false))).2
      have h2 := (upX_le (g := g) (dir := dir) (X := Y) (h := hS T Y) (b := (bS T Y || false))).1
      omega
    · obtain rfl : X = Y := by omega
      have l1 := hX.2.1
      have l2 := hX.2.2 (by omega)
      have hlt := vX_lt (X := X) (by omega)
      unfold upX
      apply Nat.add_le_add_left
      cases ha : awy g dir (decide (X % 2 = 1)) (hS S X) (bS S X || false) with
      | false => exact Nat.zero_le _
      | true =>
        have key : awy g dir (decide (X % 2 = 1)) (hS T X) (bS T X || false) = true := by
          rw [Bool.or_false] at ha ⊢
          generalize decide (X % 2 = 1) = od at ha ⊢
          have hb : hS S X = true → hS T X = true := fun h1 => by
            have := of_decide_eq_true h1
            exact decide_eq_true (by omega)
          have hbb : hS S X = true → bS S X = true → bS T X = true := fun h1 h2 => by
            have k1 := of_decide_eq_true h1
            have k2 := of_decide_eq_true h2
            exact decide_eq_true (by omega)
          have hor : (hS S X || bS S X) = true → (hS T X || bS T X) = true := fun h1 => by
            rcases Bool.or_eq_true _ _ ▸ h1 with h2 | h2
            · rw [hb h2]; rfl
            · have k2 := of_decide_eq_true h2
              by_cases k3 : vX X + vX (X + 1) ≤ 2 * T
              · rw [show hS T X = true from decide_eq_true k3]; rfl
              · rw [show bS T X = true from decide_eq_true (by omega)]; simp
          unfold awy at ha ⊢
          split
          · rename_i h0
            rw [if_pos h0] at ha
            rw [Bool.and_eq_true] at ha ⊢
            refine ⟨hb ha.1, ?_⟩
            rw [Bool.or_eq_true] at ha ⊢
            rcases ha.2 with h2 | h2
            · exact Or.inl (hbb ha.1 h2)
            · exact Or.inr h2
          · rename_i h0
            rw [if_neg h0] at ha
            split
            · rename_i h1
              rw [if_pos h1] at ha
              rw [Bool.and_eq_true] at ha ⊢
              exact ⟨ha.1, hor ha.2⟩
            · rename_i h1
              rw [if_neg h1] at ha
              split
              · rename_i h2
                rw [if_pos h2] at ha
                rw [Bool.and_eq_true] at ha ⊢
                exact ⟨ha.1, hor ha.2⟩
              · rename_i h2
                rw [if_neg h2] at ha
                exact ha
        rw [key]
        exact Nat.le_refl _

/-- Bits as numbers in their order. -/
def rv (x : Nat) : Int := if fng x then -((x % 9223372036854775808 : Nat) : Int) else (x : Int)
theorem rv_sgn {g : Bool} {Y : Nat} (h : Y ≤ 9218868437227405312) : rv (sgn g Y) = if g then -(Y : Int) else (Y : Int) := by
  cases g with
  | false =>
    have e : sgn false Y = Y := by unfold sgn; simp
    rw [e]
    unfold rv fng
    rw [decide_eq_false (by omega)]
    rfl
  | true =>
    have e : sgn true Y = 9223372036854775808 + Y := rfl
    rw [e]
    unfold rv fng
    rw [decide_eq_true (by omega)]
    simp only [↓reduceIte]
    omega
theorem rnd_rv {d : Dy} (hf : Fine d) (hV : d.V ≠ 0) (dir : Int) : rv (rndO d.neg d.V d.e false dir).1 = if d.neg then -((magS d.neg (sz d.V d.e) dir (lowX d.V d.e) : Nat) : Int) else ((magS d.neg (sz d.V d.e) dir (lowX d.V d.e) : Nat) : Int) := by
  have hl := low_is hV hf.1 hf.2.1
  rw [rndO_S d.neg false dir hV hf.1 hf.2.1 hl, rndS_mag, rv_sgn (magS_le hl.1)]
theorem rv_zero : rv 0 = 0 := by decide
/-- Rounding keeps order. -/
theorem r_mono {g k : Bool} {V U : Nat} {e e' dir : Int} {x f y f' : Nat} (h1 : toR g V e false dir = (x, f, 0)) (h2 : toR k U e' false dir = (y, f', 0)) (h : dw g V e ≤ dw k U e') : rv x ≤ rv y := by
  obtain ⟨d, m1, hd, c1⟩ := toR_ok h1
  obtain ⟨d', m2, _, c2⟩ := toR_ok h2
  obtain ⟨f1, w1, _, _⟩ := mk_fine m1
  obtain ⟨f2, w2, _, _⟩ := mk_fine m2
  rw [← w1, ← w2] at h
  have r1 : (d.V = 0 ∧ rv x = 0) ∨ (d.V ≠ 0 ∧ rv x = if d.neg then -((magS d.neg (sz d.V d.e) dir (lowX d.V d.e) : Nat) : Int) else ((magS d.neg (sz d.V d.e) dir (lowX d.V d.e) : Nat) : Int)) := by
    rcases c1 with ⟨a, b, _⟩ | ⟨a, b⟩
    · exact Or.inl ⟨a, by rw [b]; exact rv_zero⟩
    · have := rnd_rv f1 a dir
      rw [b] at this
      exact Or.inr ⟨a, this⟩
  have r2 : (d'.V = 0 ∧ rv y = 0) ∨ (d'.V ≠ 0 ∧ rv y = if d'.neg then -((magS d'.neg (sz d'.V d'.e) dir (lowX d'.V d'.e) : Nat) : Int) else ((magS d'.neg (sz d'.V d'.e) dir (lowX d'.V d'.e) : Nat) : Int)) := by
    rcases c2 with ⟨a, b, _⟩ | ⟨a, b⟩
    · exact Or.inl ⟨a, by rw [b]; exact rv_zero⟩
    · have := rnd_rv f2 a dir
      rw [b] at this
      exact Or.inr ⟨a, this⟩
  obtain ⟨dg, dV, dE⟩ := d
  obtain ⟨kg, kV, kE⟩ := d'
  simp only at *
  unfold dw at h
  have p1 : dV ≠ 0 → 0 < sz dV dE := fun h => sz_pos dE h
  have p2 : kV ≠ 0 → 0 < sz kV kE := fun h => sz_pos kE h
  have z1 : dV = 0 → sz dV dE = 0 := fun h => by rw [h, sz_zero]
  have z2 : kV = 0 → sz kV kE = 0 := fun h => by rw [h, sz_zero]
  have L1 : dV ≠ 0 → IsLow (sz dV dE) (lowX dV dE) := fun h => low_is h f1.1 f1.2.1
  have L2 : kV ≠ 0 → IsLow (sz kV kE) (lowX kV kE) := fun h => low_is h f2.1 f2.2.1
  have M1 : ∀ b : Bool, dV ≠ 0 → kV ≠ 0 → sz dV dE ≤ sz kV kE → magS b (sz dV dE) dir (lowX dV dE) ≤ magS b (sz kV kE) dir (lowX kV kE) := fun b a c l => magS_mono (L1 a) (L2 c) l
  have M2 : ∀ b : Bool, dV ≠ 0 → kV ≠ 0 → sz kV kE ≤ sz dV dE → magS b (sz kV kE) dir (lowX kV kE) ≤ magS b (sz dV dE) dir (lowX dV dE) := fun b a c l => magS_mono (L2 c) (L1 a) l
  generalize sz dV dE = S1 at *
  generalize sz kV kE = S2 at *
  clear L1 L2 c1 c2 m1 m2 w1 w2 f1 f2 h1 h2
  rcases r1 with ⟨a1, b1⟩ | ⟨a1, b1⟩ <;> rcases r2 with ⟨a2, b2⟩ | ⟨a2, b2⟩
  · omega
  · have := p2 a2
    have := z1 a1
    rw [b1, b2]
    cases kg <;> cases dg <;> simp only [Bool.false_eq_true, ↓reduceIte] at h ⊢ <;> omega
  · have := p1 a1
    have := z2 a2
    rw [b1, b2]
    cases kg <;> cases dg <;> simp only [Bool.false_eq_true, ↓reduceIte] at h ⊢ <;> omega
  · have := p1 a1
    have := p2 a2
    rw [b1, b2]
    cases kg <;> cases dg <;> simp only [Bool.false_eq_true, ↓reduceIte] at h ⊢
    · have := M1 false a1 a2 (by omega); omega
    · omega
    · omega
    · have := M2 true a1 a2 (by omega); omega

/-- Up and Down are each other's mirror. -/
def mir (dir : Int) : Int := if dir = 2 then 3 else if dir = 3 then 2 else dir
theorem mir_bd {dir : Int} (h : 0 ≤ dir ∧ dir ≤ 3) : 0 ≤ mir dir ∧ mir dir ≤ 3 := by unfold mir; split; decide; split; decide; exact h
theorem awy_mir (g : Bool) (dir : Int) (o h b : Bool) : awy (!g) (mir dir) o h b = awy g dir o h b := by
  unfold awy mir
  by_cases h2 : dir = 2
  · subst h2; cases g <;> rfl
  · by_cases h3 : dir = 3
    · subst h3; cases g <;> rfl
    · rw [if_neg h2, if_neg h3, if_neg h2, if_neg h3]
      split <;> rfl
theorem rnd_mir (g : Bool) {V : Nat} {e : Int} (more : Bool) (dir : Int) (hV : V ≠ 0) (h1 : -1073741824 ≤ e) (h2 : e ≤ 1073741824) : ∃ Y F, Y ≤ 9218868437227405312 ∧ rndO g V e more dir = (sgn g Y, F) ∧ rndO (!g) V e more (mir dir) = (sgn (!g) Y, F) := by
  have ho : overM (!g) (mir dir) = overM g dir := by unfold overM; rw [awy_mir]
  have hu : ∀ X h b, upX (!g) (mir dir) X h b = upX g dir X h b := fun X h b => by unfold upX; rw [awy_mir]
  unfold rndO
  by_cases ht : 1023 < rtop V e
  · rw [if_pos ht, if_pos ht]
    exact ⟨overM g dir, 5, overM_le g dir, rfl, by unfold overO; rw [ho]⟩
  · have hX := (rnd_low hV h1 h2 (by omega)).1
    rw [if_neg ht, if_neg ht]
    unfold rfin
    rw [hu]
    have hle := (upX_le (g := g) (dir := dir) (X := rX V e) (h := rH V e (ru V e)) (b := (rB V e (ru V e) || more))).2
    generalize upX g dir (rX V e) (rH V e (ru V e)) (rB V e (ru V e) || more) = Y at *
    by_cases hY : Y = 9218868437227405312
    · rw [if_pos hY, if_pos hY]
      exact ⟨overM g dir, 5, overM_le g dir, rfl, by unfold overO; rw [ho]⟩
    · rw [if_neg hY, if_neg hY]
      exact ⟨Y, _, by omega, rfl, rfl⟩
theorem xor_sign (Y : Nat) (hY : Y < 9223372036854775808) : (9223372036854775808 + Y) ^^^ Y = 9223372036854775808 := by
  have h : 9223372036854775808 + Y = 9223372036854775808 ^^^ Y := by
    rw [show 9223372036854775808 + Y = 9223372036854775808 ||| Y from Nat.shiftLeft_add_eq_or_of_lt (i := 63) (b := Y) (show Y < 2 ^ 63 from hY) 1]
    apply Nat.eq_of_testBit_eq
    intro i
    rw [Nat.testBit_or, Nat.testBit_xor]
    by_cases hi : i = 63
    · subst hi
      rw [Nat.testBit_lt_two_pow (x := Y) (i := 63) hY]
      simp
    · have : Nat.testBit 9223372036854775808 i = false := by
        rw [show (9223372036854775808 : Nat) = 2 ^ 63 from by decide, Nat.testBit_two_pow]
        exact decide_eq_false (by omega)
      rw [this]; simp
  rw [h, Nat.xor_assoc, Nat.xor_self, Nat.xor_zero]
/-- The mirrored number is rounded to the mirrored bits. -/
theorem r_mirror {g : Bool} {V : Nat} {e dir : Int} {x f : Nat} {b : Dy} (h : toR g V e false dir = (x, f, 0)) (hb : mk (!g) V e = some b) :
    ∃ z, toR b.neg b.V b.e false (mir dir) = (z, f, 0) ∧ x < 18446744073709551616 ∧ z < 18446744073709551616 ∧ ((x ≠ 0 ∧ x ^^^ z = 9223372036854775808) ∨ (x = 0 ∧ (z = 0 ∨ z = 9223372036854775808))) := by
  obtain ⟨d, hd, hdir, c⟩ := toR_ok h
  have hb' := mk_self hb
  have hm := mir_bd hdir
  have hfd := mk_fine hd
  have hfb := mk_fine hb
  by_cases hV : V = 0
  · have z1 : d.V = 0 := hfd.2.2.1.2 hV
    have z2 : b.V = 0 := hfb.2.2.1.2 hV
    rcases c with ⟨_, rfl, rfl⟩ | ⟨c1, _⟩
    · exact ⟨0, toR_zero hm hb' z2, by decide, by decide, Or.inr ⟨rfl, Or.inl rfl⟩⟩
    · exact absurd z1 c1
  · obtain ⟨d1, d2, d3⟩ := mk_pos hd hV
    obtain ⟨b1, b2, b3⟩ := mk_pos hb hV
    have hdb : d.V = b.V ∧ d.e = b.e := by
      have e1 := mk_is hd
      have e2 := mk_is hb
      rw [nO_pos _ _ hV] at e1 e2
      rw [← e1, ← e2]
      exact ⟨rfl, rfl⟩
    rcases c with ⟨c1, _, _⟩ | ⟨_, c2⟩
    · exact absurd c1 d2
    · obtain ⟨Y, F, hY, r1, r2⟩ := rnd_mir g (V := b.V) (e := b.e) false dir b2 hfb.1.1 hfb.1.2.1
      rw [d1, hdb.1, hdb.2, r1] at c2
      obtain ⟨rfl, rfl⟩ := Prod.mk.inj c2
      rw [← b1] at r2
      refine ⟨sgn b.neg Y, ?_, ?_, ?_, ?_⟩
      · rw [toR_some hm hb' b2, r2]
      · unfold sgn; split <;> omega
      · unfold sgn; split <;> omega
      · rw [b1]
        cases g with
        | false =>
          have e1 : sgn false Y = Y := by unfold sgn; simp
          have e2 : sgn (!false) Y = 9223372036854775808 + Y := rfl
          rw [e1, e2]
          by_cases h0 : Y = 0
          · exact Or.inr ⟨h0, Or.inr (by omega)⟩
          · exact Or.inl ⟨h0, by rw [Nat.xor_comm]; exact xor_sign Y (by omega)⟩
        | true =>
          have e1 : sgn (!true) Y = Y := by unfold sgn; simp
          have e2 : sgn true Y = 9223372036854775808 + Y := rfl
          rw [e1, e2]
          exact Or.inl ⟨by omega, xor_sign Y (by omega)⟩

/-- What bits are worth stays. -/
theorem fO_size {b : Nat} (hf : Fnt b) : sz (fO b).V (fO b).e = vX (b % 9223372036854775808) := by
  have h1 := sz_told (mk_fin hf)
  have h2 : sz (fO b).V (fO b).e = sz (fm b) (fe b) := by
    have : ((sz (fO b).V (fO b).e : Nat) : Int) = (sz (fm b) (fe b) : Int) := h1
    omega
  rw [h2]
  obtain ⟨p1, p2, p3, p4⟩ := f_parts b
  have h3 := vX_parts (L := fE b) (U := fm b) (X := b % 9223372036854775808) p1 (by omega) p3 (p4 hf)
  rw [h3, sz]
  congr 2
  have h4 := sh_held (fe b)
  rw [fe_held hf] at h4
  have h5 : fe b = (fE b : Int) - 1074 := rfl
  have h6 := kb_eq
  omega
theorem r_fix {b : Nat} {dir : Int} (hb : b < 18446744073709551616) (hf : Fnt b) (hd : 0 ≤ dir ∧ dir ≤ 3) :
    ∃ c, toR (fO b).neg (fO b).V (fO b).e false dir = (c, 0, 0) ∧ c < 18446744073709551616 ∧ (c = b ∨ (b = 9223372036854775808 ∧ c = 0)) := by
  have hmk := mk_self (mk_fin hf)
  have hfin := (mk_fine hmk).1
  by_cases h0 : fm b = 0
  · rw [fO_zero h0] at hmk ⊢
    refine ⟨0, toR_zero hd hmk rfl, by decide, ?_⟩
    have hs := f_sign hb
    have hp := (f_parts b).1
    have hp3 := (f_parts b).2.2.1
    rw [h0] at hp hp3
    have : fE b = 0 := by
      rcases Nat.eq_zero_or_pos (fE b) with h | h
      · exact h
      · have := hp3 h; omega
    rw [this] at hp
    by_cases hn : fng b = true
    · rw [hn, if_pos rfl] at hs
      exact Or.inr ⟨by omega, rfl⟩
    · rw [if_neg hn] at hs
      exact Or.inl (by omega)
  · obtain ⟨k1, k2, _⟩ := mk_pos (mk_fin hf) h0
    have hX : b % 9223372036854775808 < 9218868437227405312 := by
      have h9 : fex b ≠ 2047 := hf
      have := fex_lt b
      unfold fex at *
      omega
    have hlt := vX_lt hX
    have hL : IsLow (sz (fO b).V (fO b).e) (b % 9223372036854775808) := by
      rw [fO_size hf]
      exact ⟨by omega, Nat.le_refl _, fun _ => hlt⟩
    have hr := rndO_S (fO b).neg false dir k2 hfin.1 hfin.2.1 hL
    rw [fO_size hf] at hr
    have hh : hS (vX (b % 9223372036854775808)) (b % 9223372036854775808) = false := decide_eq_false (by omega)
    have hbb : bS (vX (b % 9223372036854775808)) (b % 9223372036854775808) = false := decide_eq_false (by omega)
    have hr2 : rndO (fO b).neg (fO b).V (fO b).e false dir = (b, 0) := by
      rw [hr, rndS, if_neg (by omega), hh, hbb, rfin, upX]
      show (if b % 9223372036854775808 + (awy (fO b).neg dir _ false false).toNat = 9218868437227405312 then _ else (sgn (fO b).neg (b % 9223372036854775808 + (awy (fO b).neg dir _ false false).toNat), fl false false _)) = _
      rw [awy_exact]
      show (if b % 9223372036854775808 + 0 = 9218868437227405312 then _ else (sgn (fO b).neg (b % 9223372036854775808 + 0), 0)) = _
      rw [if_neg (by omega), Nat.add_zero, k1]
      have hs := f_sign hb
      unfold sgn
      rw [← hs]
    exact ⟨b, by rw [toR_some hd hmk k2, hr2], hb, Or.inl rfl⟩
end Go.Proofs.Ytfccpjjdemanbaa
/- Whole numbers rounded to 53 bits, to the nearest, of two as near the even one: numbers alone. -/
namespace Go.Proofs.Ytfccpjjdemanbaa

/-- At most 53 bits, times a power of two. -/
def Fl (x : Int) : Prop := ∃ (m : Int) (k : Nat), x = m * ((2 ^ k : Nat) : Int) ∧ m.natAbs ≤ 9007199254740992
/-- How many bits are struck. -/
def rk (x : Nat) : Nat := blen x - 53
/-- What is kept. -/
def rc (x k : Nat) : Nat := x / 2 ^ k + (if 2 ^ k < 2 * (x % 2 ^ k) ∨ (2 ^ k = 2 * (x % 2 ^ k) ∧ x / 2 ^ k % 2 = 1) then 1 else 0)
def rN (x : Nat) : Nat := rc x (rk x) * 2 ^ rk x
def rn (x : Int) : Int := if x < 0 then -(rN x.natAbs : Int) else (rN x.natAbs : Int)

theorem p53 : (2 : Nat) ^ 53 = 9007199254740992 := by decide
theorem rN_spec (x : Nat) : 2 ^ rk x ∣ rN x ∧ rN x ≤ 9007199254740992 * 2 ^ rk x ∧ x < 9007199254740992 * 2 ^ rk x ∧ (rk x = 0 ∨ 4503599627370496 * 2 ^ rk x ≤ x) ∧
    ((rN x ≤ x ∧ 2 * (x - rN x) ≤ 2 ^ rk x) ∨ (x ≤ rN x ∧ 2 * (rN x - x) ≤ 2 ^ rk x)) ∧ (x % 2 ^ rk x = 0 → rN x = x) := by
  have hlt : x < 9007199254740992 * 2 ^ rk x := by
    have h1 := lt_blen x
    have h2 : (2 : Nat) ^ blen x ≤ 2 ^ (53 + rk x) := Nat.pow_le_pow_right (by decide) (by unfold rk; omega)
    rw [Nat.pow_add, p53] at h2
    omega
  have hge : rk x = 0 ∨ 4503599627370496 * 2 ^ rk x ≤ x := by
    by_cases h : rk x = 0
    · exact Or.inl h
    · refine Or.inr ?_
      have h0 : x ≠ 0 := fun h0 => h (by rw [h0]; rfl)
      have h1 := blen_le h0
      have h2 : (2 : Nat) ^ (blen x - 1) = 2 ^ (52 + rk x) := by congr 1; unfold rk at *; omega
      rw [h2, Nat.pow_add, show (2 : Nat) ^ 52 = 4503599627370496 from by decide] at h1
      exact h1
  have hp := Nat.two_pow_pos (rk x)
  have hd := Nat.div_add_mod x (2 ^ rk x)
  have hm := Nat.mod_lt x hp
  have hq : x / 2 ^ rk x < 9007199254740992 := (Nat.div_lt_iff_lt_mul hp).2 hlt
  refine ⟨⟨_, Nat.mul_comm _ _⟩, ?_, hlt, hge, ?_, ?_⟩
  · unfold rN rc
    refine Nat.mul_le_mul_right _ ?_
    split <;> omega
  · unfold rN rc
    generalize 2 ^ rk x = P at *
    generalize x / P = q at *
    generalize x % P = r at *
    rw [Nat.mul_comm] at hd
    split
    · rename_i h
      rw [Nat.add_mul, Nat.one_mul]
      exact Or.inr ⟨by omega, by omega⟩
    · rename_i h
      rw [Nat.add_zero]
      exact Or.inl ⟨by omega, by omega⟩
  · intro h0
    unfold rN rc
    rw [h0] at hd ⊢
    rw [if_neg (by omega), Nat.add_zero, Nat.mul_comm]
    omega
theorem rN_zero : rN 0 = 0 := by decide

/-- Of any whole number. -/
theorem rn_spec (x : Int) : ∃ P : Nat, (∃ k, P = 2 ^ k) ∧ (P : Int) ∣ rn x ∧ (rn x).natAbs ≤ 9007199254740992 * P ∧ x.natAbs < 9007199254740992 * P ∧ (P = 1 ∨ 4503599627370496 * P ≤ x.natAbs) ∧ 2 * (rn x - x).natAbs ≤ P ∧ ((P : Int) ∣ x → rn x = x) := by
  obtain ⟨h1, h2, h3, h4, h5, h6⟩ := rN_spec x.natAbs
  refine ⟨2 ^ rk x.natAbs, ⟨_, rfl⟩, ?_, ?_, h3, ?_, ?_, ?_⟩
  · unfold rn
    have := Int.natCast_dvd_natCast.2 h1
    split
    · exact Int.dvd_neg.2 this
    · exact this
  · unfold rn; split <;> (first | omega | exact h2)
  · rcases h4 with h4 | h4
    · exact Or.inl (by rw [h4, Nat.pow_zero])
    · exact Or.inr h4
  · unfold rn
    generalize rN x.natAbs = R at *
    generalize 2 ^ rk x.natAbs = P at *
    split <;> omega
  · intro hd
    have h7 := h6 (Nat.mod_eq_zero_of_dvd (Int.ofNat_dvd_left.1 hd))
    unfold rn
    rw [h7]
    split <;> omega
theorem rn_neg (x : Int) : rn (-x) = - rn x := by
  unfold rn
  rw [Int.natAbs_neg]
  by_cases h : x = 0
  · subst h
    have := rN_zero
    simp [this]
  · by_cases h1 : x < 0
    · rw [if_pos h1, if_neg (by omega), Int.neg_neg]
    · rw [if_neg h1, if_pos (by omega)]
theorem rn_zero : rn 0 = 0 := by decide

theorem Fl.neg {x : Int} (h : Fl x) : Fl (-x) := by
  obtain ⟨m, k, rfl, h2⟩ := h
  exact ⟨-m, k, by rw [Int.neg_mul], by omega⟩
/-- On a grid. -/
theorem Fl.grid {x : Int} {P k : Nat} (hP : P = 2 ^ k) (hd : (P : Int) ∣ x) (h : x.natAbs ≤ 9007199254740992 * P) : Fl x := by
  obtain ⟨m, rfl⟩ := hd
  refine ⟨m, k, by rw [hP, Int.mul_comm], ?_⟩
  rw [Int.natAbs_mul, Int.natAbs_natCast, Nat.mul_comm] at h
  exact Nat.le_of_mul_le_mul_right h (by rw [hP]; exact Nat.two_pow_pos _)
theorem rn_Fl (x : Int) : Fl (rn x) := by
  obtain ⟨P, ⟨k, hP⟩, h1, h2, _⟩ := rn_spec x
  exact Fl.grid hP h1 h2
theorem pow_dvd {P Q k j : Nat} (hP : P = 2 ^ k) (hQ : Q = 2 ^ j) : P ∣ Q ∨ (2 * Q) ∣ P := by
  rcases Nat.lt_or_ge j k with h | h
  · refine Or.inr ?_
    rw [hP, hQ, show 2 * 2 ^ j = 2 ^ (j + 1) by rw [Nat.pow_succ, Nat.mul_comm]]
    exact Nat.pow_dvd_pow 2 h
  · refine Or.inl ?_
    rw [hP, hQ]
    exact Nat.pow_dvd_pow 2 h
/-- It is the nearest. -/
theorem rn_grid {x f : Int} {P : Nat} (h1 : (P : Int) ∣ rn x) (h2 : 2 * (rn x - x).natAbs ≤ P) (hf : (P : Int) ∣ f) : (rn x - x).natAbs ≤ (f - x).natAbs := by
  by_cases h : f = rn x
  · rw [h]; exact Nat.le_refl _
  · have h3 : (P : Int) ∣ f - rn x := Int.dvd_sub hf h1
    have h4 : P ≤ (f - rn x).natAbs := Nat.le_of_dvd (by omega) (Int.ofNat_dvd_left.1 h3)
    omega
theorem rn_near {x f : Int} (hf : Fl f) : (rn x - x).natAbs ≤ (f - x).natAbs := by
  obtain ⟨P, ⟨k, hP⟩, h1, h2, h3, h4, h5, h6⟩ := rn_spec x
  obtain ⟨m, j, rfl, hm⟩ := hf
  obtain ⟨Q, hQ⟩ : ∃ Q : Nat, Q = 2 ^ j := ⟨_, rfl⟩
  rw [← hQ]
  rcases pow_dvd hP hQ with h | h
  · exact rn_grid h1 h5 (Int.dvd_mul_of_dvd_right (Int.natCast_dvd_natCast.2 h))
  · have hQ0 : 0 < Q := by rw [hQ]; exact Nat.two_pow_pos _
    have hle : 2 * Q ≤ P := Nat.le_of_dvd (by rw [hP]; exact Nat.two_pow_pos _) h
    have h7 : 4503599627370496 * P ≤ x.natAbs := by
      rcases h4 with h4 | h4
      · omega
      · exact h4
    have h8 : (m * (Q : Int)).natAbs ≤ 9007199254740992 * Q := by
      rw [Int.natAbs_mul, Int.natAbs_natCast]
      exact Nat.mul_le_mul_right _ hm
    generalize m * (Q : Int) = f at *
    by_cases hx : 0 ≤ x
    · have := rn_grid (f := ((4503599627370496 * P : Nat) : Int)) h1 h5 (Int.natCast_dvd_natCast.2 ⟨_, Nat.mul_comm _ _⟩)
      omega
    · have := rn_grid (f := -((4503599627370496 * P : Nat) : Int)) h1 h5 (Int.dvd_neg.2 (Int.natCast_dvd_natCast.2 ⟨_, Nat.mul_comm _ _⟩))
      omega
theorem rn_id {x : Int} (h : Fl x) : rn x = x := by
  have := rn_near h (x := x)
  omega
theorem rn_dvd {x : Int} {G g : Nat} (hG : G = 2 ^ g) (hd : (G : Int) ∣ x) : (G : Int) ∣ rn x := by
  obtain ⟨P, ⟨k, hP⟩, h1, _, _, _, _, h6⟩ := rn_spec x
  rcases pow_dvd hG hP with h | h
  · exact Int.dvd_trans (Int.natCast_dvd_natCast.2 h) h1
  · rw [h6 (Int.dvd_trans (Int.natCast_dvd_natCast.2 (Nat.dvd_trans ⟨2, Nat.mul_comm _ _⟩ h)) hd)]
    exact hd
theorem rn_ge {x f : Int} (hf : Fl f) (h : f.natAbs ≤ x.natAbs) : f.natAbs ≤ (rn x).natAbs := by
  have h1 := rn_near hf (x := x)
  have h2 := rn_near hf.neg (x := x)
  omega
theorem rn_le {x f : Int} (hf : Fl f) (h : x.natAbs ≤ f.natAbs) : (rn x).natAbs ≤ f.natAbs := by
  have h1 := rn_near hf (x := x)
  have h2 := rn_near hf.neg (x := x)
  omega

/-- What a sum leaves. -/
theorem sum_rest {a b : Int} (ha : Fl a) (hb : Fl b) : Fl (a + b - rn (a + b)) := by
  have n1 := rn_near ha (x := a + b)
  have n2 := rn_near hb (x := a + b)
  obtain ⟨m, i, ea, hm⟩ := ha
  obtain ⟨n, j, eb, hn⟩ := hb
  have key : ∀ (c d : Int) (m n : Int) (P Q p q : Nat), P = 2 ^ p → Q = 2 ^ q → P ∣ Q → c = m * (P : Int) → d = n * (Q : Int) → m.natAbs ≤ 9007199254740992 → (rn (c + d) - (c + d)).natAbs ≤ (c).natAbs → Fl (c + d - rn (c + d)) := fun c d m n P Q p q hP _ hPQ hc hd hm h => by
    have d1 : (P : Int) ∣ c := ⟨m, by rw [hc, Int.mul_comm]⟩
    have d2 : (P : Int) ∣ d := Int.dvd_trans (Int.natCast_dvd_natCast.2 hPQ) ⟨n, by rw [hd, Int.mul_comm]⟩
    have d3 : (P : Int) ∣ c + d := Int.dvd_add d1 d2
    refine Fl.grid hP (Int.dvd_sub d3 (rn_dvd hP d3)) ?_
    have hc2 : c.natAbs ≤ 9007199254740992 * P := by
      rw [hc, Int.natAbs_mul, Int.natAbs_natCast]; exact Nat.mul_le_mul_right _ hm
    omega
  rcases Nat.le_total i j with h | h
  · exact key a b m n _ _ i j rfl rfl (Nat.pow_dvd_pow 2 h) ea eb hm (by omega)
  · have := key b a n m _ _ j i rfl rfl (Nat.pow_dvd_pow 2 h) eb ea hn (by rw [Int.add_comm b a]; omega)
    rw [Int.add_comm b a] at this
    exact this
end Go.Proofs.Ytfccpjjdemanbaa
/- Sums without a loss: what Quick and Sum leave is just the rest (Dekker, Knuth), over whole numbers rounded to 53 bits. -/
namespace Go.Proofs.Ytfccpjjdemanbaa

theorem pow_lt_two {P Q k j : Nat} (hP : P = 2 ^ k) (hQ : Q = 2 ^ j) (h : P < 2 * Q) : P ≤ Q := by
  have hQ0 : 0 < Q := by rw [hQ]; exact Nat.two_pow_pos _
  have hP0 : 0 < P := by rw [hP]; exact Nat.two_pow_pos _
  rcases pow_dvd hP hQ with h1 | h1
  · exact Nat.le_of_dvd hQ0 h1
  · have := Nat.le_of_dvd hP0 h1; omega
theorem pow_two {Q j : Nat} (hQ : Q = 2 ^ j) : 2 * Q = 2 ^ (j + 1) := by rw [hQ, Nat.pow_succ, Nat.mul_comm]
theorem Fl_zero : Fl 0 := ⟨0, 0, rfl, by decide⟩
/-- A grid of its own. -/
theorem Fl.own {a : Int} (h : Fl a) : ∃ Q j : Nat, Q = 2 ^ j ∧ (Q : Int) ∣ a ∧ a.natAbs + Q ≤ 9007199254740992 * Q ∧ (Q = 1 ∨ 4503599627370496 * Q ≤ a.natAbs) := by
  obtain ⟨Q, ⟨j, hQ⟩, h1, _, h3, h4, _, _⟩ := rn_spec a
  rw [rn_id h] at h1
  refine ⟨Q, j, hQ, h1, ?_, h4⟩
  obtain ⟨m, rfl⟩ := h1
  rw [Int.natAbs_mul, Int.natAbs_natCast, Nat.mul_comm] at h3 ⊢
  have hQ0 : 0 < Q := by rw [hQ]; exact Nat.two_pow_pos _
  have h5 := Nat.lt_of_mul_lt_mul_right h3
  have h6 : (m.natAbs + 1) * Q ≤ 9007199254740992 * Q := Nat.mul_le_mul_right _ h5
  rw [Nat.add_mul, Nat.one_mul] at h6
  exact h6
theorem Fl.parts {b : Int} (h : Fl b) : ∃ R j : Nat, R = 2 ^ j ∧ (R : Int) ∣ b ∧ b.natAbs ≤ 9007199254740992 * R := by
  obtain ⟨Q, j, hQ, h1, h2, _⟩ := h.own
  exact ⟨Q, j, hQ, h1, by omega⟩

theorem quick_exact {a b : Int} (ha : Fl a) (hb : Fl b) (h : b.natAbs ≤ a.natAbs) : Fl (rn (a + b) - a) := by
  obtain ⟨Q, i, hQ, q1, q2, _⟩ := ha.own
  obtain ⟨P, ⟨k, hP⟩, p1, p2, p3, p4, p5, p6⟩ := rn_spec (a + b)
  have hQ0 : 0 < Q := by rw [hQ]; exact Nat.two_pow_pos _
  rcases pow_dvd hQ hP with hd | hd
  · have hle : P ≤ 2 * Q := by
      refine pow_lt_two hP (pow_two hQ) ?_
      rcases p4 with p4 | p4 <;> omega
    refine Fl.grid hQ (Int.dvd_sub (Int.dvd_trans (Int.natCast_dvd_natCast.2 hd) p1) q1) ?_
    omega
  · have hPa : (P : Int) ∣ a := Int.dvd_trans (Int.natCast_dvd_natCast.2 (Nat.dvd_trans ⟨2, Nat.mul_comm _ _⟩ hd)) q1
    by_cases hx : rn (a + b) = a + b
    · rw [hx, show a + b - a = b by omega]; exact hb
    · obtain ⟨R, j, hR, r1, r2⟩ := hb.parts
      have hnd : ¬ P ∣ R := fun h9 => hx (p6 (Int.dvd_add hPa (Int.dvd_trans (Int.natCast_dvd_natCast.2 h9) r1)))
      have hle : 2 * R ≤ P := by
        rcases pow_dvd hP hR with h9 | h9
        · exact absurd h9 hnd
        · exact Nat.le_of_dvd (by rw [hP]; exact Nat.two_pow_pos _) h9
      refine Fl.grid hP (Int.dvd_sub p1 hPa) ?_
      omega
/-- Quick. -/
theorem quick_sum {a b : Int} (ha : Fl a) (hb : Fl b) (h : b.natAbs ≤ a.natAbs) : rn (b - rn (rn (a + b) - a)) = a + b - rn (a + b) := by
  rw [rn_id (quick_exact ha hb h)]
  have := rn_id (sum_rest ha hb)
  rw [show b - (rn (a + b) - a) = a + b - rn (a + b) by omega]
  exact this
/-- Sum. -/
theorem two_sum {a b s t : Int} (ha : Fl a) (hb : Fl b) (hs : rn (a + b) = s) (ht : rn (s - a) = t) : rn (rn (a - rn (s - t)) + rn (b - t)) = a + b - s := by
  have he := sum_rest ha hb
  rw [hs] at he
  have hFs : Fl s := by rw [← hs]; exact rn_Fl _
  rcases Nat.lt_or_ge a.natAbs b.natAbs with hab | hab
  · by_cases hsa : s.natAbs < a.natAbs
    · have h1 : (a + b).natAbs < a.natAbs := by
        rcases Nat.lt_or_ge (a + b).natAbs a.natAbs with h | h
        · exact h
        · have := rn_ge ha h
          rw [hs] at this; omega
      have h2 : Fl (a + b) := by
        obtain ⟨Q, i, hQ, q1, q2⟩ := ha.parts
        obtain ⟨R, j, hR, r1, r2⟩ := hb.parts
        rcases pow_dvd hQ hR with h | h
        · exact Fl.grid hQ (Int.dvd_add q1 (Int.dvd_trans (Int.natCast_dvd_natCast.2 h) r1)) (by omega)
        · exact Fl.grid hR (Int.dvd_add (Int.dvd_trans (Int.natCast_dvd_natCast.2 (Nat.dvd_trans ⟨2, Nat.mul_comm _ _⟩ h)) q1) r1) (by omega)
      rw [rn_id h2] at hs
      have h3 : s - a = b := by omega
      rw [h3, rn_id hb] at ht
      rw [← ht, show s - b = a by omega, rn_id ha, Int.sub_self, Int.sub_self, rn_zero]
      show rn 0 = _
      rw [rn_zero]; omega
    · have h1 : Fl (t - s) := by
        have := quick_exact hFs ha.neg (by omega)
        rw [show s + -a = s - a by omega, ht] at this
        exact this
      have h2 : Fl (s - t) := by have := h1.neg; rwa [show -(t - s) = s - t by omega] at this
      have h3 : Fl (a - (s - t)) := by
        have := (sum_rest hFs ha.neg).neg
        rw [show s + -a = s - a by omega, ht, show -(s - a - t) = a - (s - t) by omega] at this
        exact this
      have h4 : Fl (b - t) := by
        by_cases hx : s = a + b
        · have h5 : s - a = b := by omega
          rw [h5, rn_id hb] at ht
          rw [← ht, Int.sub_self]; exact Fl_zero
        · obtain ⟨P, ⟨k, hP⟩, p1, p2, p3, p4, p5, p6⟩ := rn_spec (a + b)
          have n2 := rn_near hb (x := a + b)
          rw [hs] at p1 p2 p5 p6 n2
          have p4' : 4503599627370496 * P ≤ (a + b).natAbs := by
            rcases p4 with p4 | p4
            · exact absurd (p6 (by rw [p4]; exact ⟨a + b, (Int.one_mul _).symm⟩)) hx
            · exact p4
          by_cases hy : t = s - a
          · rw [hy, show b - (s - a) = a + b - s by omega]; exact he
          · obtain ⟨T, ⟨l, hT⟩, t1, t2, t3, t4, t5, t6⟩ := rn_spec (s - a)
            rw [ht] at t1 t2 t5 t6
            have t4' : 4503599627370496 * T ≤ (s - a).natAbs := by
              rcases t4 with t4 | t4
              · exact absurd (t6 (by rw [t4]; exact ⟨s - a, (Int.one_mul _).symm⟩)) hy
              · exact t4
            obtain ⟨R, j, hR, r1, r2⟩ := hb.parts
            have hPR : P ≤ 2 * R := pow_lt_two hP (pow_two hR) (by omega)
            have hTR : T ≤ 2 * R := pow_lt_two hT (pow_two hR) (by omega)
            have hPT : P ≤ 4 * T := by
              have := pow_lt_two hP (pow_two (pow_two hT)) (by omega)
              omega
            rcases pow_dvd hR hT with h | h
            · exact Fl.grid hR (Int.dvd_sub r1 (Int.dvd_trans (Int.natCast_dvd_natCast.2 h) t1)) (by omega)
            · exact Fl.grid hT (Int.dvd_sub (Int.dvd_trans (Int.natCast_dvd_natCast.2 (Nat.dvd_trans ⟨2, Nat.mul_comm _ _⟩ h)) r1) t1) (by omega)
      rw [rn_id h2, rn_id h3, rn_id h4, show a - (s - t) + (b - t) = a + b - s by omega, rn_id he]
  · have h1 : Fl (s - a) := by rw [← hs]; exact quick_exact ha hb hab
    rw [rn_id h1] at ht
    rw [← ht, show s - (s - a) = a by omega, rn_id ha, Int.sub_self, rn_zero, Int.zero_add, show b - (s - a) = a + b - s by omega, rn_id he, rn_id he]
end Go.Proofs.Ytfccpjjdemanbaa
/- The model's float64: what bits are worth as whole numbers of 2^-1074, and what '+', '-', '*' tell, by rounding of whole numbers. -/
namespace Go.Proofs.Ytfccpjjdemanbaa

/-- What bits are worth, in units of 2^-1074. -/
def fvI (b : Nat) : Int := if fng b then -((fm b * 2 ^ fE b : Nat) : Int) else ((fm b * 2 ^ fE b : Nat) : Int)
theorem fvI_abs (b : Nat) : (fvI b).natAbs = fm b * 2 ^ fE b := by unfold fvI; split <;> omega
theorem fvI_Fl (b : Nat) : Fl (fvI b) := by
  have h := (f_parts b).2.1
  refine Fl.grid (P := 2 ^ fE b) (k := fE b) rfl ?_ ?_
  · unfold fvI
    have : ((2 ^ fE b : Nat) : Int) ∣ ((fm b * 2 ^ fE b : Nat) : Int) := Int.natCast_dvd_natCast.2 ⟨fm b, Nat.mul_comm _ _⟩
    split
    · exact Int.dvd_neg.2 this
    · exact this
  · rw [fvI_abs]
    exact Nat.mul_le_mul_right _ (by omega)

theorem read_fin {b : Nat} (hb : b < 18446744073709551616) (hf : Fnt b) : Ieee.double.read b = .number (fng b) (fm b) (fe b) := by
  have h1 : fex b ≠ 2047 := hf
  have e1 : (b / 9223372036854775808 % 2 == 1) = fng b := by
    unfold fng
    by_cases h : 9223372036854775808 ≤ b
    · rw [decide_eq_true h]; simp; omega
    · rw [decide_eq_false h]; simp; omega
  show (if b % 9223372036854775808 < 4503599627370496 then Ieee.Datum.number (b / 9223372036854775808 % 2 == 1) (b % 9223372036854775808) (-1074)
    else if b % 9223372036854775808 < 9218868437227405312 then .number (b / 9223372036854775808 % 2 == 1) (4503599627370496 + b % 9223372036854775808 % 4503599627370496) (-1074 + ((b % 9223372036854775808 / 4503599627370496 - 1 : Nat) : Int))
    else if b % 9223372036854775808 = 9218868437227405312 then .infinity (b / 9223372036854775808 % 2 == 1) else .nan (b / 9223372036854775808 % 2 == 1) (b % 9223372036854775808 - 9218868437227405312)) = _
  rw [e1]
  have e2 : fex b = b % 9223372036854775808 / 4503599627370496 := by unfold fex; omega
  have e3 : ffr b = b % 9223372036854775808 % 4503599627370496 := by unfold ffr; omega
  by_cases h : b % 9223372036854775808 < 4503599627370496
  · rw [if_pos h]
    have e4 : fex b = 0 := by omega
    unfold fm fe fE
    rw [if_pos e4, e4, e3]
    congr 1
    omega
  · rw [if_neg h, if_pos (by omega)]
    have e4 : fex b ≠ 0 := by omega
    unfold fm fe fE
    rw [if_neg e4, e3, e2]
    congr 1 <;> omega

theorem rc_scale (n k a : Nat) : rc (n * 2 ^ a) (k + a) = rc n k := by
  have hp := Nat.two_pow_pos a
  have h1 : n * 2 ^ a / 2 ^ (k + a) = n / 2 ^ k := by rw [Nat.pow_add]; exact Nat.mul_div_mul_right _ _ hp
  have h2 : n * 2 ^ a % 2 ^ (k + a) = n % 2 ^ k * 2 ^ a := by rw [Nat.pow_add]; exact Nat.mul_mod_mul_right _ _ _
  unfold rc
  rw [h1, h2, Nat.pow_add, ← Nat.mul_assoc]
  have h3 : (2 ^ k * 2 ^ a < 2 * (n % 2 ^ k) * 2 ^ a) ↔ 2 ^ k < 2 * (n % 2 ^ k) := Nat.mul_lt_mul_right hp
  have h4 : (2 ^ k * 2 ^ a = 2 * (n % 2 ^ k) * 2 ^ a) ↔ 2 ^ k = 2 * (n % 2 ^ k) := ⟨fun h => Nat.eq_of_mul_eq_mul_right hp h, fun h => congrArg (· * 2 ^ a) h⟩
  simp only [h3, h4]
theorem cut_rc (neg : Bool) (n d : Nat) : Ieee.Toward.even.cut neg n d = rc n d := by
  have key : ∀ e, (1 <<< e = 2 ^ e) := fun e => by rw [Nat.shiftLeft_eq, Nat.one_mul]
  have h0 : Ieee.Toward.even.cut neg n d = rc n (min d (n.log2 + 2)) := by
    unfold Ieee.Toward.cut rc
    simp only [key]
    generalize 2 ^ min d (n.log2 + 2) = P
    congr 1
    by_cases h1 : P < 2 * (n % P) ∨ (P = 2 * (n % P) ∧ n / P % 2 = 1)
    · rw [if_pos h1]
      rcases h1 with h1 | ⟨h1, h2⟩
      · rw [decide_eq_true h1]; rfl
      · have e1 : (P == 2 * (n % P)) = true := by simpa using h1
        have e2 : (n / P % 2 == 1) = true := by simpa using h2
        rw [e1, e2]; simp
    · rw [if_neg h1]
      have e0 : decide (P < 2 * (n % P)) = false := decide_eq_false (fun h => h1 (Or.inl h))
      have e1 : (P == 2 * (n % P) && n / P % 2 == 1) = false := by
        cases hh : (P == 2 * (n % P) && n / P % 2 == 1) with
        | false => rfl
        | true =>
          rw [Bool.and_eq_true] at hh
          exact absurd (Or.inr ⟨by simpa using hh.1, by simpa using hh.2⟩) h1
      rw [e0, e1]; rfl
  rw [h0]
  rcases Nat.le_total d (n.log2 + 2) with h | h
  · rw [Nat.min_eq_left h]
  · rw [Nat.min_eq_right h]
    have hn : ∀ e, n.log2 + 2 ≤ e → rc n e = 0 := fun e he => by
      have h1 : 2 * n < 2 ^ (n.log2 + 2) := by
        have := @Nat.lt_log2_self n
        rw [Nat.pow_succ 2 (n.log2 + 1)]
        omega
      have h2 : (2 : Nat) ^ (n.log2 + 2) ≤ 2 ^ e := Nat.pow_le_pow_right (by decide) he
      unfold rc
      rw [Nat.div_eq_of_lt (by omega), Nat.mod_eq_of_lt (by omega), if_neg (by omega)]
    rw [hn _ (Nat.le_refl _), hn d h]
theorem rN_scale (n a : Nat) : rN (n * 2 ^ a) = rN n * 2 ^ a := by
  by_cases h0 : n = 0
  · subst h0; rw [Nat.zero_mul, rN_zero, Nat.zero_mul]
  · by_cases hk : 53 ≤ blen n
    · have e1 : rk (n * 2 ^ a) = rk n + a := by unfold rk; rw [blen_shl h0]; omega
      unfold rN
      rw [e1, rc_scale, Nat.pow_add, Nat.mul_assoc]
    · have e1 : rN n = n := (rN_spec n).2.2.2.2.2 (by have : rk n = 0 := by unfold rk; omega
                                                      rw [this, Nat.pow_zero, Nat.mod_one])
      have h2 := rn_id (x := ((n * 2 ^ a : Nat) : Int)) (Fl.grid (P := 2 ^ a) (k := a) rfl (Int.natCast_dvd_natCast.2 ⟨n, Nat.mul_comm _ _⟩) (by
        rw [Int.natAbs_natCast]
        refine Nat.mul_le_mul_right _ ?_
        have := blen_le_iff.1 (show blen n ≤ 53 by omega)
        rw [p53] at this; omega))
      unfold rn at h2
      rw [if_neg (by omega), Int.natAbs_natCast] at h2
      rw [e1]
      exact Int.ofNat.inj h2

/-- Bits of a number of at most 53 bits at a place. -/
theorem rung_val {z k U rung : Nat} (neg : Bool) (hz : z = 2098) (hU : U ≤ 9007199254740992) (hk : 0 < k → 4503599627370496 ≤ U) (hlt : U * 2 ^ k < 2 ^ z) (hr : rung = k * 4503599627370496 + U) :
    rung < 9218868437227405312 ∧ (if neg then 9223372036854775808 + rung else rung) < 18446744073709551616 ∧ Fnt (if neg then 9223372036854775808 + rung else rung) ∧ fng (if neg then 9223372036854775808 + rung else rung) = neg ∧
      fm (if neg then 9223372036854775808 + rung else rung) * 2 ^ fE (if neg then 9223372036854775808 + rung else rung) = U * 2 ^ k := by
  have hk9 : k ≤ 2045 ∧ (U = 9007199254740992 → k ≤ 2044) := by
    have key : ∀ j : Nat, 2 ^ j ≤ U → j + k < z := fun j hj => by
      have h1 : 2 ^ j * 2 ^ k ≤ U * 2 ^ k := Nat.mul_le_mul_right _ hj
      rw [← Nat.pow_add] at h1
      exact (Nat.pow_lt_pow_iff_right (a := 2) (by decide)).1 (Nat.lt_of_le_of_lt h1 hlt)
    constructor
    · rcases Nat.eq_zero_or_pos k with h | h
      · omega
      · have := key 52 (hk h); omega
    · intro h
      have := key 53 (by rw [h, p53]; exact Nat.le_refl _)
      omega
  obtain ⟨X, hX⟩ : ∃ X, (if neg then 9223372036854775808 + rung else rung) = X := ⟨_, rfl⟩
  rw [hX]
  have hX2 : X = (if neg then 9223372036854775808 else 0) + rung := by rw [← hX]; cases neg <;> simp
  by_cases hc : U = 9007199254740992
  · have e9 : k * 4503599627370496 + 9007199254740992 = (k + 1) * 4503599627370496 + 4503599627370496 := by omega
    obtain ⟨f1, f2, f3, f4, f5⟩ := f_of (L := k + 1) (M := 4503599627370496) neg (by decide) (by omega) (by have := hk9.2 hc; omega) (X := X) (by rw [hX2, hr, hc, e9])
    refine ⟨by have := hk9.2 hc; omega, f1, f2, f5, ?_⟩
    rw [f3, f4, hc, Nat.pow_succ]; omega
  · obtain ⟨f1, f2, f3, f4, f5⟩ := f_of (L := k) (M := U) neg (by omega) hk hk9.1 (X := X) (by rw [hX2, hr])
    refine ⟨by have := hk9.1; omega, f1, f2, f5, ?_⟩
    rw [f3, f4]
/-- The model's nearest, of what is a whole number of 2^-1074. -/
theorem nearest_val {z M a b mag : Nat} {place : Int} (neg : Bool) (hz : z = 2098) (h0 : mag ≠ 0) (hM : M * 2 ^ a = mag * 2 ^ b) (hK : place + 1074 = (b : Int) - a) (hlt : rN M < 2 ^ z) :
    ∃ r, Ieee.double.nearest neg mag place = r ∧ r < 18446744073709551616 ∧ Fnt r ∧ fng r = neg ∧ fm r * 2 ^ fE r = rN M := by
  have hM0 : M ≠ 0 := by
    intro h
    rw [h, Nat.zero_mul] at hM
    exact absurd hM.symm (Nat.mul_ne_zero h0 (Nat.pos_iff_ne_zero.1 (Nat.two_pow_pos _)))
  have hbl : blen M + a = blen mag + b := by rw [← blen_shl hM0, hM, blen_shl h0]
  obtain ⟨last, hlast⟩ : ∃ l : Int, max (place + (mag.log2 : Int) - 52) (-1074) = l := ⟨_, rfl⟩
  have hbm : blen mag = mag.log2 + 1 := by unfold blen; rw [if_neg h0]
  have hlk : last + 1074 = (rk M : Int) := by unfold rk; omega
  obtain ⟨p, hp⟩ : ∃ p : Nat, (place - last).toNat = p := ⟨_, rfl⟩
  obtain ⟨q, hq⟩ : ∃ q : Nat, (last - place).toNat = q := ⟨_, rfl⟩
  have hpq : q + b = rk M + a + p := by omega
  have hkept : rc (mag * 2 ^ p) q = rc M (rk M) := by
    rw [← rc_scale (mag * 2 ^ p) q b, hpq, Nat.mul_right_comm, ← hM, Nat.mul_assoc, ← Nat.pow_add, Nat.add_assoc, rc_scale]
  have hs := rN_spec M
  have hval : rc M (rk M) * 2 ^ rk M = rN M := rfl
  have hU : rc M (rk M) ≤ 9007199254740992 := by
    have h1 := hs.2.1
    rw [← hval] at h1
    exact Nat.le_of_mul_le_mul_right h1 (Nat.two_pow_pos _)
  have hU2 : 0 < rk M → 4503599627370496 ≤ rc M (rk M) := fun h => by
    rcases hs.2.2.2.1 with h1 | h1
    · omega
    · have h2 : 4503599627370496 ≤ M / 2 ^ rk M := (Nat.le_div_iff_mul_le (Nat.two_pow_pos _)).2 h1
      unfold rc; omega
  obtain ⟨r1, r2, r3, r4, r5⟩ := rung_val (rung := rk M * 4503599627370496 + rc M (rk M)) neg hz hU hU2 (by rw [hval]; exact hlt) rfl
  refine ⟨_, ?_, r2, r3, r4, by rw [r5, hval]⟩
  have e1 : Ieee.double.nearest neg mag place = Ieee.double.word neg (min ((max (place + (mag.log2 : Int) - 52) (-1074) - -1074).toNat * 4503599627370496 + Ieee.Toward.even.cut neg (mag <<< (place - max (place + (mag.log2 : Int) - 52) (-1074)).toNat) (max (place + (mag.log2 : Int) - 52) (-1074) - place).toNat) 9218868437227405312) := by
    unfold Ieee.Format.nearest
    rw [if_neg h0]
    rfl
  rw [e1, hlast, hp, hq, cut_rc, Nat.shiftLeft_eq, hkept, show (last - -1074).toNat = rk M by omega, Nat.min_eq_left (Nat.le_of_lt r1)]
  rfl
end Go.Proofs.Ytfccpjjdemanbaa
/- The model's '+', '-', '*' of float64, by whole numbers of 2^-1074. -/
namespace Go.Proofs.Ytfccpjjdemanbaa

def sv (s : Bool) (m I : Nat) : Int := if s then -((m * 2 ^ I : Nat) : Int) else ((m * 2 ^ I : Nat) : Int)
theorem fvI_sv (b : Nat) : fvI b = sv (fng b) (fm b) (fE b) := rfl
theorem sv_neg (s : Bool) (m I : Nat) : sv (!s) m I = - sv s m I := by cases s <;> simp [sv]
theorem sv_abs (s : Bool) (m I : Nat) : (sv s m I).natAbs = m * 2 ^ I := by unfold sv; split <;> omega
theorem signed_sv (s : Bool) (m u : Nat) : Ieee.signed s m u = sv s m u := by
  unfold Ieee.signed sv
  rw [Nat.shiftLeft_eq]
theorem sv_up (s : Bool) (m u b : Nat) : sv s m (u + b) = sv s m u * ((2 ^ b : Nat) : Int) := by
  unfold sv
  rw [Nat.pow_add, ← Nat.mul_assoc]
  cases s
  · simp only [Bool.false_eq_true, if_false]; exact Int.natCast_mul _ _
  · simp only [if_true]; rw [Int.natCast_mul, Int.neg_mul]
/-- The noughts. -/
theorem nought_val (neg : Bool) (place : Int) : Fnt (Ieee.double.nearest neg 0 place) ∧ Ieee.double.nearest neg 0 place < 18446744073709551616 ∧ fvI (Ieee.double.nearest neg 0 place) = 0 := by
  have e : Ieee.double.nearest neg 0 place = if neg then 9223372036854775808 else 0 := by
    unfold Ieee.Format.nearest
    rw [if_pos rfl]
    cases neg <;> rfl
  rw [e]
  cases neg
  · exact ⟨by decide, by decide, by decide⟩
  · exact ⟨by decide, by decide, by decide⟩
theorem rn_of {neg : Bool} {N : Int} {r : Nat} (hneg : neg = decide (N < 0)) (h1 : fng r = neg) (h2 : fm r * 2 ^ fE r = rN N.natAbs) : fvI r = rn N := by
  unfold fvI rn
  rw [h1, h2, hneg]
  by_cases h : N < 0
  · rw [decide_eq_true h, if_pos rfl, if_pos h]
  · rw [decide_eq_false h, if_neg (by decide), if_neg h]

theorem sum_val {z : Nat} (hz : z = 2098) (s t : Bool) (m n I J : Nat) (i j : Int) (hi : i = (I : Int) - 1074) (hj : j = (J : Int) - 1074) (hlt : (rn (sv s m I + sv t n J)).natAbs < 2 ^ z) :
    ∃ r, ((Ieee.Datum.number s m i).sum (.number t n j)).map Ieee.double.write = some r ∧ r < 18446744073709551616 ∧ Fnt r ∧ fvI r = rn (sv s m I + sv t n J) := by
  obtain ⟨b, hb⟩ : ∃ b : Nat, min i j + 1074 = (b : Int) := ⟨(min i j + 1074).toNat, by omega⟩
  obtain ⟨u, hu⟩ : ∃ u : Nat, (i - min i j).toNat = u := ⟨_, rfl⟩
  obtain ⟨v, hv⟩ : ∃ v : Nat, (j - min i j).toNat = v := ⟨_, rfl⟩
  have eI : I = u + b := by omega
  have eJ : J = v + b := by omega
  obtain ⟨T, hT⟩ : ∃ T, sv s m u + sv t n v = T := ⟨_, rfl⟩
  have hN : sv s m I + sv t n J = T * ((2 ^ b : Nat) : Int) := by rw [eI, eJ, sv_up, sv_up, ← Int.add_mul, hT]
  have e0 : ((Ieee.Datum.number s m i).sum (.number t n j)).map Ieee.double.write = some (Ieee.double.nearest (if T = 0 then s && t else decide (T < 0)) T.natAbs (min i j)) := by
    unfold Ieee.Datum.sum
    simp only [hu, hv, signed_sv, hT]
    rfl
  rw [e0, hN]
  rw [hN] at hlt
  by_cases h0 : T = 0
  · subst h0
    obtain ⟨k1, k2, k3⟩ := nought_val (if (0 : Int) = 0 then s && t else decide ((0 : Int) < 0)) (min i j)
    refine ⟨_, rfl, k2, k1, ?_⟩
    rw [Int.zero_mul, rn_zero]; exact k3
  · rw [if_neg h0]
    have hp : 0 < 2 ^ b := Nat.two_pow_pos b
    have hsg : decide (T < 0) = decide (T * ((2 ^ b : Nat) : Int) < 0) := by
      by_cases h : T < 0
      · rw [decide_eq_true h, decide_eq_true (Int.mul_neg_of_neg_of_pos h (by omega))]
      · rw [decide_eq_false h, decide_eq_false (Int.not_lt.2 (Int.mul_nonneg (by omega) (by omega)))]
    have habs : (T * ((2 ^ b : Nat) : Int)).natAbs = T.natAbs * 2 ^ b := by rw [Int.natAbs_mul, Int.natAbs_natCast]
    have hrn : ∀ N : Int, (rn N).natAbs = rN N.natAbs := fun N => by unfold rn; split <;> omega
    obtain ⟨r, hr, k1, k2, k3, k4⟩ := nearest_val (M := T.natAbs * 2 ^ b) (a := 0) (b := b) (mag := T.natAbs) (place := min i j) (decide (T < 0)) hz (by omega) (by rw [Nat.pow_zero, Nat.mul_one]) (by omega) (by rw [← habs, ← hrn]; exact hlt)
    rw [hr]
    exact ⟨r, rfl, k1, k2, rn_of hsg k3 (by rw [k4, habs])⟩
theorem add_link {z x y : Nat} (hz : z = 2098) (hx : x < 18446744073709551616) (hy : y < 18446744073709551616) (fx : Fnt x) (fy : Fnt y) (hlt : (rn (fvI x + fvI y)).natAbs < 2 ^ z) :
    ∃ r, Ieee.double.add x y = some r ∧ r < 18446744073709551616 ∧ Fnt r ∧ fvI r = rn (fvI x + fvI y) := by
  unfold Ieee.Format.add
  rw [read_fin hx fx, read_fin hy fy]
  exact sum_val hz _ _ _ _ _ _ _ _ rfl rfl hlt
theorem sub_link {z x y : Nat} (hz : z = 2098) (hx : x < 18446744073709551616) (hy : y < 18446744073709551616) (fx : Fnt x) (fy : Fnt y) (hlt : (rn (fvI x - fvI y)).natAbs < 2 ^ z) :
    ∃ r, Ieee.double.sub x y = some r ∧ r < 18446744073709551616 ∧ Fnt r ∧ fvI r = rn (fvI x - fvI y) := by
  unfold Ieee.Format.sub
  rw [read_fin hx fx, read_fin hy fy]
  have h := sum_val hz (fng x) (!fng y) (fm x) (fm y) (fE x) (fE y) (fe x) (fe y) rfl rfl
  rw [sv_neg, ← fvI_sv, ← fvI_sv, ← Int.sub_eq_add_neg] at h
  exact h hlt

theorem sv_mul (s t : Bool) (m n I J : Nat) : sv s m I * sv t n J = sv (s ^^ t) (m * n) (I + J) := by
  unfold sv
  have e : m * n * 2 ^ (I + J) = m * 2 ^ I * (n * 2 ^ J) := by rw [Nat.pow_add]; ac_rfl
  rw [e, Int.natCast_mul (m * 2 ^ I)]
  cases s <;> cases t <;> simp [Int.neg_mul, Int.mul_neg]
theorem sv_sign {s : Bool} {m I : Nat} (h : m ≠ 0) : decide (sv s m I < 0) = s := by
  have hp : 0 < m * 2 ^ I := Nat.mul_pos (Nat.pos_of_ne_zero h) (Nat.two_pow_pos _)
  unfold sv
  generalize m * 2 ^ I = W at *
  cases s
  · rw [if_neg (by decide)]; exact decide_eq_false (by omega)
  · rw [if_pos rfl]; exact decide_eq_true (by omega)
/-- A product that is a whole number of 2^-1074. -/
theorem mul_link {z a x y : Nat} {Q : Int} (hz : z = 2098) (ha : a = 1074) (hx : x < 18446744073709551616) (hy : y < 18446744073709551616) (fx : Fnt x) (fy : Fnt y) (hQ : fvI x * fvI y = Q * ((2 ^ a : Nat) : Int)) (hlt : (rn Q).natAbs < 2 ^ z) :
    ∃ r, Ieee.double.mul x y = some r ∧ r < 18446744073709551616 ∧ Fnt r ∧ fvI r = rn Q := by
  unfold Ieee.Format.mul
  rw [read_fin hx fx, read_fin hy fy]
  have e0 : ((Ieee.Datum.number (fng x) (fm x) (fe x)).product (.number (fng y) (fm y) (fe y))).map Ieee.double.write = some (Ieee.double.nearest (fng x ^^ fng y) (fm x * fm y) (fe x + fe y)) := rfl
  rw [e0]
  rw [fvI_sv, fvI_sv, sv_mul] at hQ
  have hp : 0 < 2 ^ a := Nat.two_pow_pos a
  by_cases h0 : fm x * fm y = 0
  · rw [h0] at hQ ⊢
    have hQ0 : Q = 0 := by
      have h1 : sv (fng x ^^ fng y) 0 (fE x + fE y) = 0 := by unfold sv; rw [Nat.zero_mul]; split <;> rfl
      rw [h1] at hQ
      rcases Int.mul_eq_zero.1 hQ.symm with h | h
      · exact h
      · omega
    obtain ⟨k1, k2, k3⟩ := nought_val (fng x ^^ fng y) (fe x + fe y)
    exact ⟨_, rfl, k2, k1, by rw [hQ0, rn_zero]; exact k3⟩
  · have habs := congrArg Int.natAbs hQ
    rw [sv_abs, Int.natAbs_mul, Int.natAbs_natCast] at habs
    have hsg := sv_sign (s := fng x ^^ fng y) (I := fE x + fE y) h0
    rw [hQ] at hsg
    have hsg2 : (fng x ^^ fng y) = decide (Q < 0) := by
      rw [← hsg]
      by_cases h : Q < 0
      · rw [decide_eq_true h, decide_eq_true (Int.mul_neg_of_neg_of_pos h (by omega))]
      · rw [decide_eq_false h, decide_eq_false (Int.not_lt.2 (Int.mul_nonneg (by omega) (by omega)))]
    have hrn : ∀ N : Int, (rn N).natAbs = rN N.natAbs := fun N => by unfold rn; split <;> omega
    have hfe : fe x + fe y + 1074 = ((fE x + fE y : Nat) : Int) - (a : Int) := by unfold fe; omega
    obtain ⟨r, hr, k1, k2, k3, k4⟩ := nearest_val (M := Q.natAbs) (a := a) (b := fE x + fE y) (fng x ^^ fng y) hz h0 habs.symm hfe (by rw [← hrn]; exact hlt)
    rw [hr]
    exact ⟨r, rfl, k1, k2, rn_of hsg2 k3 k4⟩
end Go.Proofs.Ytfccpjjdemanbaa
/- Products without a loss: Veltkamp's halves and Dekker's product, over whole numbers rounded to 53 bits. -/
namespace Go.Proofs.Ytfccpjjdemanbaa

theorem p27 : (134217728 : Nat) = 2 ^ 27 := by decide
theorem p52 : (4503599627370496 : Nat) = 2 ^ 52 := by decide
theorem pow_ge {P k Q j : Nat} (hP : P = 2 ^ k) (hQ : Q = 2 ^ j) (h : Q < 2 * P) : Q ∣ P := by
  rcases pow_dvd hQ hP with h1 | h1
  · exact h1
  · have := Nat.le_of_dvd (by rw [hQ]; exact Nat.two_pow_pos _) h1
    omega

theorem split_pos {A c q h : Int} (h1 : 4503599627370496 ≤ A) (h2 : A < 9007199254740992) (hc : rn (134217729 * A) = c) (hq : rn (c - A) = q) (hh : rn (c - q) = h) :
    (134217728 : Int) ∣ h ∧ h.natAbs ≤ 9007199254740992 ∧ (A - h).natAbs ≤ 67108864 := by
  obtain ⟨P, ⟨k, hP⟩, a1, _, a3, a4, a5, a6⟩ := rn_spec (134217729 * A)
  rw [hc] at a1 a5 a6
  have d1 : 134217728 ∣ P := pow_ge hP p27 (by omega)
  have c1 : P ≤ 268435456 := by
    refine pow_lt_two hP (show (268435456 : Nat) = 2 ^ 28 by decide) ?_
    rcases a4 with a4 | a4 <;> omega
  have c2 : (134217728 : Int) ∣ c := Int.dvd_trans (Int.natCast_dvd_natCast.2 d1) a1
  have lo : 604462909807314587353088 ≤ c - A := by
    by_cases hA : A = 4503599627370496
    · subst hA
      have h3 : Fl (134217729 * 4503599627370496) := ⟨134217729, 52, by decide, by decide⟩
      rw [rn_id h3] at hc
      omega
    · omega
  have hi : c - A < 1208925819614629174706176 := by
    by_cases hA : A = 9007199254740991
    · subst hA
      have h3 : rn (134217729 * 9007199254740991) = 1208925828621828161011712 := by decide +kernel
      rw [h3] at hc
      omega
    · omega
  obtain ⟨T, ⟨l, hT⟩, b1, _, b3, b4, b5, _⟩ := rn_spec (c - A)
  rw [hq] at b1 b5
  have d2 : 134217728 ∣ T := pow_ge hT p27 (by omega)
  have c3 : T ≤ 134217728 := by
    refine pow_lt_two hT p27 ?_
    rcases b4 with b4 | b4 <;> omega
  have c4 : (134217728 : Int) ∣ q := Int.dvd_trans (Int.natCast_dvd_natCast.2 d2) b1
  have c5 : (134217728 : Int) ∣ c - q := Int.dvd_sub c2 c4
  have c6 : Fl (c - q) := Fl.grid p27 c5 (by omega)
  rw [rn_id c6] at hh
  subst hh
  exact ⟨c5, by omega, by omega⟩
/-- Split: halves of any number. -/
theorem split_all {A c q h : Int} (hA : A = 0 ∨ (4503599627370496 ≤ A.natAbs ∧ A.natAbs < 9007199254740992)) (hc : rn (134217729 * A) = c) (hq : rn (c - A) = q) (hh : rn (c - q) = h) :
    (134217728 : Int) ∣ h ∧ h.natAbs ≤ 9007199254740992 ∧ (A - h).natAbs ≤ 67108864 ∧ rn (A - h) = A - h := by
  have key : (134217728 : Int) ∣ h ∧ h.natAbs ≤ 9007199254740992 ∧ (A - h).natAbs ≤ 67108864 := by
    rcases hA with rfl | ⟨h1, h2⟩
    · rw [Int.mul_zero, rn_zero] at hc
      subst hc
      rw [Int.sub_zero, rn_zero] at hq
      subst hq
      rw [Int.sub_zero, rn_zero] at hh
      subst hh
      decide
    · by_cases h0 : 0 ≤ A
      · exact split_pos (by omega) (by omega) hc hq hh
      · have e1 : rn (134217729 * -A) = -c := by rw [Int.mul_neg, rn_neg, hc]
        have e2 : rn (-c - -A) = -q := by rw [show -c - -A = -(c - A) by omega, rn_neg, hq]
        have e3 : rn (-c - -q) = -h := by rw [show -c - -q = -(c - q) by omega, rn_neg, hh]
        obtain ⟨k1, k2, k3⟩ := split_pos (A := -A) (by omega) (by omega) e1 e2 e3
        exact ⟨Int.dvd_neg.1 k1, by omega, by omega⟩
  refine ⟨key.1, key.2.1, key.2.2, rn_id ?_⟩
  exact Fl.grid (P := 1) (k := 0) rfl ⟨A - h, (Int.one_mul _).symm⟩ (by omega)

theorem mul_le {x y : Int} {m n : Nat} (h1 : x.natAbs ≤ m) (h2 : y.natAbs ≤ n) : (x * y).natAbs ≤ m * n := by
  rw [Int.natAbs_mul]; exact Nat.mul_le_mul h1 h2
/-- Prod: what a product leaves. -/
theorem prod_rest {A B ah al bh bl p : Int} (hA : 4503599627370496 ≤ A.natAbs ∧ A.natAbs < 9007199254740992) (hB : 4503599627370496 ≤ B.natAbs ∧ B.natAbs < 9007199254740992)
    (a1 : (134217728 : Int) ∣ ah) (a2 : ah.natAbs ≤ 9007199254740992) (a3 : al.natAbs ≤ 67108864) (a4 : A = ah + al) (b1 : (134217728 : Int) ∣ bh) (b2 : bh.natAbs ≤ 9007199254740992) (b3 : bl.natAbs ≤ 67108864) (b4 : B = bh + bl) (hp : rn (A * B) = p) :
    rn (rn (rn (rn (rn (ah * bh) - p) + rn (ah * bl)) + rn (al * bh)) + rn (al * bl)) = A * B - p := by
  obtain ⟨x, rfl⟩ := a1
  obtain ⟨y, rfl⟩ := b1
  have hx : x.natAbs ≤ 67108864 := by omega
  have hy : y.natAbs ≤ 67108864 := by omega
  have u1 := mul_le hx hy
  have v1 := mul_le hx b3
  have z1 := mul_le a3 hy
  have r1 := mul_le a3 b3
  have hAB1 : 4503599627370496 * 4503599627370496 ≤ (A * B).natAbs := by rw [Int.natAbs_mul]; exact Nat.mul_le_mul hA.1 hB.1
  have hAB2 : (A * B).natAbs ≤ 9007199254740991 * 9007199254740991 := by rw [Int.natAbs_mul]; exact Nat.mul_le_mul (by omega) (by omega)
  have e0 : A * B = 18014398509481984 * (x * y) + 134217728 * (x * bl) + 134217728 * (al * y) + al * bl := by
    rw [a4, b4, Int.add_mul, Int.mul_add, Int.mul_add]
    have t1 : 134217728 * x * (134217728 * y) = 18014398509481984 * (x * y) := by
      rw [show (18014398509481984 : Int) = 134217728 * 134217728 by decide]; ac_rfl
    have t2 : 134217728 * x * bl = 134217728 * (x * bl) := by ac_rfl
    have t3 : al * (134217728 * y) = 134217728 * (al * y) := by ac_rfl
    rw [t1, t2, t3]; omega
  have e1 : 134217728 * x * (134217728 * y) = 18014398509481984 * (x * y) := by
    rw [show (18014398509481984 : Int) = 134217728 * 134217728 by decide]; ac_rfl
  have e2 : 134217728 * x * bl = 134217728 * (x * bl) := by ac_rfl
  have e3 : al * (134217728 * y) = 134217728 * (al * y) := by ac_rfl
  rw [e1, e2, e3]
  obtain ⟨P, ⟨k, hP⟩, p1, _, p3, p4, p5, _⟩ := rn_spec (A * B)
  rw [hp] at p1 p5
  generalize x * y = u at *
  generalize x * bl = v at *
  generalize al * y = z at *
  generalize al * bl = r at *
  generalize A * B = N at *
  clear hA hB a2 a3 a4 b2 b3 b4 hx hy e1 e2 e3
  have d1 : 4503599627370496 ∣ P := pow_ge hP p52 (by omega)
  have c1 : P ≤ 9007199254740992 := by
    refine pow_lt_two hP p53.symm ?_
    rcases p4 with p4 | p4 <;> omega
  have c2 : (4503599627370496 : Int) ∣ p := Int.dvd_trans (Int.natCast_dvd_natCast.2 d1) p1
  have f1 : Fl (18014398509481984 * u) := Fl.grid (P := 18014398509481984) (k := 54) (by decide) ⟨u, rfl⟩ (by omega)
  have f2 : Fl (134217728 * v) := Fl.grid p27 ⟨v, rfl⟩ (by omega)
  have f3 : Fl (134217728 * z) := Fl.grid p27 ⟨z, rfl⟩ (by omega)
  have f4 : Fl r := Fl.grid (P := 1) (k := 0) rfl ⟨r, (Int.one_mul _).symm⟩ (by omega)
  have g1 : Fl (18014398509481984 * u - p) := Fl.grid p52 (Int.dvd_sub ⟨4 * u, by omega⟩ c2) (by omega)
  have c3 : (134217728 : Int) ∣ p := Int.dvd_trans ⟨33554432, by decide⟩ c2
  have g2 : Fl (18014398509481984 * u - p + 134217728 * v) := Fl.grid p27 (Int.dvd_add (Int.dvd_sub ⟨134217728 * u, by omega⟩ c3) ⟨v, rfl⟩) (by omega)
  have g3 : Fl (18014398509481984 * u - p + 134217728 * v + 134217728 * z) := Fl.grid (P := 1) (k := 0) rfl ⟨_, (Int.one_mul _).symm⟩ (by omega)
  have g4 : Fl (18014398509481984 * u - p + 134217728 * v + 134217728 * z + r) := Fl.grid (P := 1) (k := 0) rfl ⟨_, (Int.one_mul _).symm⟩ (by omega)
  rw [rn_id f1, rn_id f2, rn_id f3, rn_id f4, rn_id g1, rn_id g2, rn_id g3, rn_id g4]
  omega
end Go.Proofs.Ytfccpjjdemanbaa
/- The document's rounding to the nearest is the model's. -/
namespace Go.Proofs.Ytfccpjjdemanbaa

theorem rc_half (V q : Nat) : rc V (q + 1) = V / 2 ^ q / 2 + (decide (V / 2 ^ q % 2 = 1) && (decide (V % 2 ^ q ≠ 0) || decide (V / 2 ^ q / 2 % 2 = 1))).toNat := by
  have h1 : V / 2 ^ (q + 1) = V / 2 ^ q / 2 := by rw [Nat.pow_succ, Nat.div_div_eq_div_mul]
  have h2 := Nat.mod_pow_succ (x := V) (b := 2) (k := q)
  have hp := Nat.two_pow_pos q
  have hr := Nat.mod_lt V hp
  unfold rc
  rw [h1, h2, Nat.pow_succ]
  have hh : V / 2 ^ q % 2 = 0 ∨ V / 2 ^ q % 2 = 1 := by omega
  generalize V / 2 ^ q / 2 = U at *
  generalize V % 2 ^ q = r at *
  generalize V / 2 ^ q % 2 = h at *
  generalize 2 ^ q = P at *
  rcases hh with rfl | rfl
  · rw [if_neg (by omega)]; rfl
  · by_cases h3 : r = 0
    · subst h3
      by_cases h4 : U % 2 = 1
      · rw [if_pos (Or.inr ⟨by omega, h4⟩), decide_eq_true h4]; simp
      · rw [if_neg (by omega), decide_eq_false h4]; simp
    · rw [if_pos (Or.inl (by omega)), decide_eq_true h3]; simp
theorem rc_zero (V : Nat) : rc V 0 = V := by
  unfold rc
  rw [Nat.pow_zero, Nat.div_one, Nat.mod_one, if_neg (by omega), Nat.add_zero]

theorem rnd_ieee (g : Bool) {V : Nat} {e : Int} (hV : V ≠ 0) (h1 : -1073741824 ≤ e) (h2 : e ≤ 1073741824) : (rndO g V e false 0).1 = Ieee.double.nearest g V e := by
  have hbm : blen V = V.log2 + 1 := by unfold blen; rw [if_neg hV]
  have e1 : Ieee.double.nearest g V e = Ieee.double.word g (min ((ru V e - -1074).toNat * 4503599627370496 + rc (V * 2 ^ (e - ru V e).toNat) (ru V e - e).toNat) 9218868437227405312) := by
    have hru : max (e + (V.log2 : Int) - 52) (-1074) = ru V e := by unfold ru rtop; omega
    rw [← cut_rc g, ← Nat.shiftLeft_eq, ← hru]
    unfold Ieee.Format.nearest
    rw [if_neg hV]
    rfl
  have hword : ∀ X, Ieee.double.word g X = sgn g X := fun X => by
    show (if g then 9223372036854775808 + X else X) = (if g then 9223372036854775808 else 0) + X
    cases g <;> simp
  rw [e1, hword]
  unfold rndO
  by_cases ht : 1023 < rtop V e
  · rw [if_pos ht]
    have hk : 4503599627370496 ≤ rc (V * 2 ^ (e - ru V e).toNat) (ru V e - e).toNat := by
      have hu : ru V e = rtop V e - 52 := by unfold ru; omega
      rw [hu]
      unfold rtop
      have hB := blen_pos hV
      have hge := blen_le hV
      have h9 : 4503599627370496 ≤ V * 2 ^ (e - ((blen V : Int) - 1 + e - 52)).toNat / 2 ^ ((blen V : Int) - 1 + e - 52 - e).toNat := by
        refine (Nat.le_div_iff_mul_le (Nat.two_pow_pos _)).2 ?_
        rw [p52, ← Nat.pow_add]
        rcases Nat.le_total (blen V) 53 with h | h
        · rw [show ((blen V : Int) - 1 + e - 52 - e).toNat = 0 by omega, show (e - ((blen V : Int) - 1 + e - 52)).toNat = 53 - blen V by omega, show 52 + 0 = blen V - 1 + (53 - blen V) by omega, Nat.pow_add]
          exact Nat.mul_le_mul_right _ hge
        · rw [show ((blen V : Int) - 1 + e - 52 - e).toNat = blen V - 53 by omega, show (e - ((blen V : Int) - 1 + e - 52)).toNat = 0 by omega, Nat.pow_zero, Nat.mul_one, show 52 + (blen V - 53) = blen V - 1 by omega]
          exact hge
      unfold rc
      omega
    have hL : 2046 ≤ (ru V e - -1074).toNat := by unfold ru; omega
    rw [Nat.min_eq_right (by omega)]
    rfl
  · rw [if_neg ht, Bool.or_false]
    have hup : upX g 0 (rX V e) (rH V e (ru V e)) (rB V e (ru V e)) = (ru V e - -1074).toNat * 4503599627370496 + rc (V * 2 ^ (e - ru V e).toNat) (ru V e - e).toNat := by
      have hawy : ∀ o h b, awy g 0 o h b = (h && (b || o)) := fun _ _ _ => rfl
      unfold upX
      rw [hawy]
      unfold rX
      rw [show (ru V e - -1074).toNat = (ru V e + 1074).toNat by omega]
      generalize (ru V e + 1074).toNat = L
      unfold rU rH rB
      by_cases hu : ru V e ≤ e
      · rw [if_pos hu, if_pos hu, if_pos hu, show (ru V e - e).toNat = 0 by omega, rc_zero, Bool.false_and]
        exact Nat.add_zero _
      · rw [if_neg hu, if_neg hu, if_neg hu, show (e - ru V e).toNat = 0 by omega, Nat.pow_zero, Nat.mul_one, show (ru V e - e).toNat = (ru V e - e - 1).toNat + 1 by omega, rc_half]
        have hodd : decide ((L * 4503599627370496 + V / 2 ^ (ru V e - e - 1).toNat / 2) % 2 = 1) = decide (V / 2 ^ (ru V e - e - 1).toNat / 2 % 2 = 1) := by
          congr 1
          generalize V / 2 ^ (ru V e - e - 1).toNat / 2 = U
          exact propext ⟨fun h => by omega, fun h => by omega⟩
        rw [hodd, Nat.add_assoc]
    have hle : upX g 0 (rX V e) (rH V e (ru V e)) (rB V e (ru V e)) ≤ 9218868437227405312 := by
      have := (rnd_low hV h1 h2 (by omega)).1
      unfold upX
      cases awy g 0 (decide (rX V e % 2 = 1)) (rH V e (ru V e)) (rB V e (ru V e)) <;> simp <;> omega
    unfold rfin
    rw [← hup, Nat.min_eq_left hle]
    by_cases hI : upX g 0 (rX V e) (rH V e (ru V e)) (rB V e (ru V e)) = 9218868437227405312
    · rw [if_pos hI, hI]; rfl
    · rw [if_neg hI]
/-- Bits of a worth. -/
theorem fvI_inj {b c : Nat} (hb : b < 18446744073709551616) (hc : c < 18446744073709551616) (fb : Fnt b) (fc : Fnt c) (h : fvI b = fvI c) (h0 : fvI b ≠ 0) : b = c := by
  have hsame : ∀ x : Nat, fm (x % 9223372036854775808) = fm x ∧ fE (x % 9223372036854775808) = fE x := fun x => by
    have e1 : fex (x % 9223372036854775808) = fex x := by unfold fex; omega
    have e2 : ffr (x % 9223372036854775808) = ffr x := by unfold ffr; omega
    unfold fE fm
    rw [e1, e2]
    exact ⟨rfl, rfl⟩
  have hlt : ∀ x : Nat, Fnt x → x % 9223372036854775808 < 9218868437227405312 := fun x hx => by
    have h1 : fex x ≠ 2047 := hx
    unfold fex at h1
    omega
  have hv : ∀ x : Nat, vX (x % 9223372036854775808) = (fvI x).natAbs * 2 ^ kb := fun x => by
    rw [fvI_abs, vX, (hsame x).1, (hsame x).2, Nat.pow_add, Nat.mul_assoc]
  have h1 : vX (b % 9223372036854775808) = vX (c % 9223372036854775808) := by rw [hv, hv, h]
  have lb := hlt b fb
  have lc := hlt c fc
  have h2 : b % 9223372036854775808 = c % 9223372036854775808 := by
    rcases Nat.lt_trichotomy (b % 9223372036854775808) (c % 9223372036854775808) with h3 | h3 | h3
    · have k1 := vX_lt lb
      have k2 := vX_le (X := b % 9223372036854775808 + 1) (Y := c % 9223372036854775808) h3 (by omega)
      omega
    · exact h3
    · have k1 := vX_lt lc
      have k2 := vX_le (X := c % 9223372036854775808 + 1) (Y := b % 9223372036854775808) h3 (by omega)
      omega
  have hs : fng b = fng c := by
    have a1 := fvI_abs b
    have a2 := fvI_abs c
    unfold fvI at h h0
    cases k1 : fng b <;> cases k2 : fng c <;> simp only [k1, k2, if_true, if_false, Bool.false_eq_true] at h h0 ⊢ <;> omega
  have s1 := f_sign hb
  have s2 := f_sign hc
  rw [s1, s2, hs, h2]
end Go.Proofs.Ytfccpjjdemanbaa
/- The model's product of any two float64 numbers: how near it is, underflow and all. -/
namespace Go.Proofs.Ytfccpjjdemanbaa

theorem rc_near (n q : Nat) : (rc n q * 2 ^ q ≤ n ∧ 2 * (n - rc n q * 2 ^ q) ≤ 2 ^ q) ∨ (n ≤ rc n q * 2 ^ q ∧ 2 * (rc n q * 2 ^ q - n) ≤ 2 ^ q) := by
  have hp := Nat.two_pow_pos q
  have hd := Nat.div_add_mod n (2 ^ q)
  have hm := Nat.mod_lt n hp
  unfold rc
  generalize 2 ^ q = P at *
  generalize n / P = d at *
  generalize n % P = r at *
  rw [Nat.mul_comm] at hd
  split
  · rename_i h
    rw [Nat.add_mul, Nat.one_mul]
    exact Or.inr ⟨by omega, by omega⟩
  · rename_i h
    rw [Nat.add_zero]
    exact Or.inl ⟨by omega, by omega⟩
theorem nearest_any {z a b mag : Nat} {place : Int} (neg : Bool) (hz : z = 2098) (h0 : mag ≠ 0) (hK : place + 1074 = (b : Int) - a) (hlt : mag * 2 ^ b * 2 < 2 ^ z * 2 ^ a) :
    ∃ r k U : Nat, Ieee.double.nearest neg mag place = r ∧ r < 18446744073709551616 ∧ Fnt r ∧ fng r = neg ∧ fm r * 2 ^ fE r = U * 2 ^ k ∧
      ((U * 2 ^ k * 2 ^ a ≤ mag * 2 ^ b ∧ 2 * (mag * 2 ^ b - U * 2 ^ k * 2 ^ a) ≤ 2 ^ k * 2 ^ a) ∨ (mag * 2 ^ b ≤ U * 2 ^ k * 2 ^ a ∧ 2 * (U * 2 ^ k * 2 ^ a - mag * 2 ^ b) ≤ 2 ^ k * 2 ^ a)) ∧ (k = 0 ∨ 4503599627370496 * (2 ^ k * 2 ^ a) ≤ mag * 2 ^ b) := by
  obtain ⟨last, hlast⟩ : ∃ l : Int, max (place + (mag.log2 : Int) - 52) (-1074) = l := ⟨_, rfl⟩
  have hbm : blen mag = mag.log2 + 1 := by unfold blen; rw [if_neg h0]
  have hB := blen_pos h0
  obtain ⟨k, hk⟩ : ∃ k : Nat, last + 1074 = (k : Int) := ⟨(last + 1074).toNat, by omega⟩
  obtain ⟨p, hp⟩ : ∃ p : Nat, (place - last).toNat = p := ⟨_, rfl⟩
  obtain ⟨q, hq⟩ : ∃ q : Nat, (last - place).toNat = q := ⟨_, rfl⟩
  have hpq : q + b = k + a + p := by omega
  have hpp : 0 < 2 ^ p := Nat.two_pow_pos p
  obtain ⟨U, hU⟩ : ∃ U, rc (mag * 2 ^ p) q = U := ⟨_, rfl⟩
  have hn := rc_near (mag * 2 ^ p) q
  rw [hU] at hn
  have hU1 : U ≤ 9007199254740992 := by
    have h1 : mag * 2 ^ p < 2 ^ (53 + q) := blen_le_iff.1 (by rw [blen_shl h0]; omega)
    rw [Nat.pow_add, p53] at h1
    have h2 : mag * 2 ^ p / 2 ^ q < 9007199254740992 := (Nat.div_lt_iff_lt_mul (Nat.two_pow_pos _)).2 h1
    rw [← hU]; unfold rc
    split <;> omega
  have hU2 : 0 < k → 4503599627370496 * 2 ^ q ≤ mag * 2 ^ p := fun h => by
    have h1 := blen_le h0
    have h2 : 2 ^ (blen mag - 1) * 2 ^ p ≤ mag * 2 ^ p := Nat.mul_le_mul_right _ h1
    rw [← Nat.pow_add, show blen mag - 1 + p = 52 + q by omega, Nat.pow_add] at h2
    exact h2
  have hU3 : 0 < k → 4503599627370496 ≤ U := fun h => by
    have h2 : 4503599627370496 ≤ mag * 2 ^ p / 2 ^ q := (Nat.le_div_iff_mul_le (Nat.two_pow_pos _)).2 (hU2 h)
    rw [← hU]; unfold rc; omega
  -- all times 2^b, and without 2^p
  have s1 : U * 2 ^ q * 2 ^ b = U * 2 ^ k * 2 ^ a * 2 ^ p := by
    rw [Nat.mul_assoc U, ← Nat.pow_add, hpq, Nat.pow_add, Nat.pow_add]; ac_rfl
  have s2 : mag * 2 ^ p * 2 ^ b = mag * 2 ^ b * 2 ^ p := by ac_rfl
  have s3 : 2 ^ q * 2 ^ b = 2 ^ k * 2 ^ a * 2 ^ p := by rw [← Nat.pow_add, hpq, Nat.pow_add, Nat.pow_add]
  have hnear : (U * 2 ^ k * 2 ^ a ≤ mag * 2 ^ b ∧ 2 * (mag * 2 ^ b - U * 2 ^ k * 2 ^ a) ≤ 2 ^ k * 2 ^ a) ∨ (mag * 2 ^ b ≤ U * 2 ^ k * 2 ^ a ∧ 2 * (U * 2 ^ k * 2 ^ a - mag * 2 ^ b) ≤ 2 ^ k * 2 ^ a) := by
    rcases hn with ⟨n1, n2⟩ | ⟨n1, n2⟩
    · refine Or.inl ⟨?_, ?_⟩
      · have := Nat.mul_le_mul_right (2 ^ b) n1
        rw [s1, s2] at this
        exact Nat.le_of_mul_le_mul_right this hpp
      · have := Nat.mul_le_mul_right (2 ^ b) n2
        rw [s3, Nat.mul_assoc, Nat.sub_mul, s1, s2, ← Nat.sub_mul, ← Nat.mul_assoc] at this
        exact Nat.le_of_mul_le_mul_right this hpp
    · refine Or.inr ⟨?_, ?_⟩
      · have := Nat.mul_le_mul_right (2 ^ b) n1
        rw [s1, s2] at this
        exact Nat.le_of_mul_le_mul_right this hpp
      · have := Nat.mul_le_mul_right (2 ^ b) n2
        rw [s3, Nat.mul_assoc, Nat.sub_mul, s1, s2, ← Nat.sub_mul, ← Nat.mul_assoc] at this
        exact Nat.le_of_mul_le_mul_right this hpp
  have hge : k = 0 ∨ 4503599627370496 * (2 ^ k * 2 ^ a) ≤ mag * 2 ^ b := by
    rcases Nat.eq_zero_or_pos k with h | h
    · exact Or.inl h
    · refine Or.inr ?_
      have := Nat.mul_le_mul_right (2 ^ b) (hU2 h)
      rw [Nat.mul_assoc, s3, s2, ← Nat.mul_assoc] at this
      exact Nat.le_of_mul_le_mul_right this hpp
  have hpa : 0 < 2 ^ a := Nat.two_pow_pos a
  have hval : U * 2 ^ k < 2 ^ z := by
    refine Nat.lt_of_mul_lt_mul_right (a := 2 ^ a) ?_
    have hz2 : 2 * 2 ^ a ≤ 2 ^ z * 2 ^ a := Nat.mul_le_mul_right _ (Nat.pow_le_pow_right (n := 2) (i := 1) (by decide) (by omega))
    rcases hge with h | h
    · subst h
      rw [Nat.pow_zero, Nat.mul_one] at hnear ⊢
      rw [Nat.one_mul] at hnear
      generalize mag * 2 ^ b = W at *
      generalize U * 2 ^ a = Y at *
      generalize 2 ^ z * 2 ^ a = Z at *
      generalize 2 ^ a = A at *
      omega
    · generalize mag * 2 ^ b = W at *
      generalize U * 2 ^ k * 2 ^ a = Y at *
      generalize 2 ^ z * 2 ^ a = Z at *
      generalize 2 ^ k * 2 ^ a = A at *
      omega
  obtain ⟨r1, r2, r3, r4, r5⟩ := rung_val (rung := k * 4503599627370496 + U) neg hz hU1 hU3 hval rfl
  refine ⟨_, k, U, ?_, r2, r3, r4, r5, hnear, hge⟩
  have e1 : Ieee.double.nearest neg mag place = Ieee.double.word neg (min ((max (place + (mag.log2 : Int) - 52) (-1074) - -1074).toNat * 4503599627370496 + Ieee.Toward.even.cut neg (mag <<< (place - max (place + (mag.log2 : Int) - 52) (-1074)).toNat) (max (place + (mag.log2 : Int) - 52) (-1074) - place).toNat) 9218868437227405312) := by
    unfold Ieee.Format.nearest
    rw [if_neg h0]
    rfl
  rw [e1, hlast, hp, hq, cut_rc, Nat.shiftLeft_eq, hU, show (last - -1074).toNat = k by omega, Nat.min_eq_left (Nat.le_of_lt r1)]
  rfl
theorem mul_any {z a x y : Nat} (hz : z = 2098) (ha : a = 1074) (hx : x < 18446744073709551616) (hy : y < 18446744073709551616) (fx : Fnt x) (fy : Fnt y) (hlt : (fvI x * fvI y).natAbs * 2 < 2 ^ z * 2 ^ a) :
    ∃ r, Ieee.double.mul x y = some r ∧ r < 18446744073709551616 ∧ Fnt r ∧ 9007199254740992 * (fvI r * ((2 ^ a : Nat) : Int) - fvI x * fvI y).natAbs ≤ (fvI x * fvI y).natAbs + 2 ^ a * 4503599627370496 := by
  unfold Ieee.Format.mul
  rw [read_fin hx fx, read_fin hy fy]
  have e0 : ((Ieee.Datum.number (fng x) (fm x) (fe x)).product (.number (fng y) (fm y) (fe y))).map Ieee.double.write = some (Ieee.double.nearest (fng x ^^ fng y) (fm x * fm y) (fe x + fe y)) := rfl
  rw [e0]
  have hW : fvI x * fvI y = sv (fng x ^^ fng y) (fm x * fm y) (fE x + fE y) := by rw [fvI_sv, fvI_sv, sv_mul]
  rw [hW] at hlt ⊢
  rw [sv_abs] at hlt ⊢
  by_cases h0 : fm x * fm y = 0
  · rw [h0]
    obtain ⟨k1, k2, k3⟩ := nought_val (fng x ^^ fng y) (fe x + fe y)
    refine ⟨_, rfl, k2, k1, ?_⟩
    rw [k3]
    have h1 : sv (fng x ^^ fng y) 0 (fE x + fE y) = 0 := by unfold sv; rw [Nat.zero_mul]; split <;> rfl
    rw [h1, Int.zero_mul]
    exact Nat.zero_le _
  · have hfe : fe x + fe y + 1074 = ((fE x + fE y : Nat) : Int) - (a : Int) := by unfold fe; omega
    obtain ⟨r, k, U, hr, k1, k2, k3, k4, k5, k6⟩ := nearest_any (a := a) (b := fE x + fE y) (fng x ^^ fng y) hz h0 hfe hlt
    rw [hr]
    refine ⟨r, rfl, k1, k2, ?_⟩
    have hv : fvI r * ((2 ^ a : Nat) : Int) = if (fng x ^^ fng y) then -((U * 2 ^ k * 2 ^ a : Nat) : Int) else ((U * 2 ^ k * 2 ^ a : Nat) : Int) := by
      unfold fvI
      rw [k3, k4]
      cases (fng x ^^ fng y)
      · simp only [Bool.false_eq_true, if_false]; exact (Int.natCast_mul _ _).symm
      · simp only [if_true]; rw [Int.neg_mul, ← Int.natCast_mul]
    rw [hv]
    unfold sv
    have hk : k = 0 ∨ 0 < k := Nat.eq_zero_or_pos k
    have k7 : 2 ^ k * 2 ^ a ≤ 2 ^ a ∨ 4503599627370496 * (2 ^ k * 2 ^ a) ≤ fm x * fm y * 2 ^ (fE x + fE y) := by
      rcases k6 with h | h
      · refine Or.inl ?_
        rw [h, Nat.pow_zero, Nat.one_mul]; exact Nat.le_refl _
      · exact Or.inr h
    generalize fm x * fm y * 2 ^ (fE x + fE y) = W at *
    generalize U * 2 ^ k * 2 ^ a = Y at *
    generalize 2 ^ k * 2 ^ a = A at *
    generalize 2 ^ a = D at *
    clear k6 hlt hv hW hk k4
    have habs : ∀ (s : Bool), ((if s then -(Y : Int) else (Y : Int)) - (if s then -(W : Int) else (W : Int))).natAbs = (Y - W) + (W - Y) := fun s => by
      cases s
      · rw [if_neg (by decide), if_neg (by decide)]; omega
      · rw [if_pos rfl, if_pos rfl]; omega
    rw [habs]
    omega
end Go.Proofs.Ytfccpjjdemanbaa
/- Sums and products of pairs: how near they are, over whole numbers rounded to 53 bits. -/
namespace Go.Proofs.Ytfccpjjdemanbaa

theorem rn_rel (x : Int) : 9007199254740992 * (rn x - x).natAbs ≤ x.natAbs := by
  obtain ⟨P, ⟨k, hP⟩, h1, h2, h3, h4, h5, h6⟩ := rn_spec x
  rcases h4 with h4 | h4
  · subst h4
    rw [h6 ⟨x, (Int.one_mul _).symm⟩, Int.sub_self]
    exact Nat.zero_le _
  · omega
theorem abs_two {a b c : Int} (h : a = b + c) : a.natAbs ≤ b.natAbs + c.natAbs := by rw [h]; exact Int.natAbs_add_le b c
theorem abs_lin {M X N2 N3 e1 e2 e3 xl yl m n : Nat} (hM : M = m + n) (bx : 9007199254740992 * xl ≤ m) (by_ : 9007199254740992 * yl ≤ n) (hX1 : X ≤ M + xl + yl) (hX2 : M ≤ X + xl + yl) (r1 : 9007199254740992 * e1 ≤ X) (n2 : N2 ≤ xl + yl) (r2 : 9007199254740992 * e2 ≤ N2) (n3 : N3 ≤ e1 + (N2 + e2)) (r3 : 9007199254740992 * e3 ≤ N3) :
    (e3 + e2) * 1267650600228229401496703205376 ≤ M ∧ N3 + e3 + e1 ≤ X := by
  constructor <;> omega
/-- The sum of two pairs that aren't below 0: what Add comes to, within 2^-100. -/
theorem pair_add {xh xl yh yl m n s v w hi : Int} (hm : 0 ≤ m) (hn : 0 ≤ n) (hx : m = xh + xl) (hy : n = yh + yl) (bx : 9007199254740992 * xl.natAbs ≤ m.natAbs) (by_ : 9007199254740992 * yl.natAbs ≤ n.natAbs)
    (hs : rn (xh + yh) = s) (hv : rn (xl + yl) = v) (hw : rn (xh + yh - s + v) = w) (hhi : rn (s + w) = hi) :
    rn (w - rn (hi - s)) = s + w - hi ∧ (s + w - (m + n)).natAbs * 1267650600228229401496703205376 ≤ (m + n).natAbs := by
  have hFs : Fl s := by rw [← hs]; exact rn_Fl _
  have hFw : Fl w := by rw [← hw]; exact rn_Fl _
  have q1 : xh + yh = m + n + (-xl + -yl) := by clear bx by_ hs hv hw hhi; omega
  have q2 : m + n = xh + yh + (xl + yl) := by clear bx by_ hs hv hw hhi; omega
  have q3 : xh + yh - s + v = -(s - (xh + yh)) + v := by clear bx by_ hs hv hw hhi; omega
  have q4 : v = (xl + yl) + (v - (xl + yl)) := by clear bx by_ hs hv hw hhi; omega
  have q5 : s + w - (m + n) = (w - (xh + yh - s + v)) + (v - (xl + yl)) := by clear bx by_ hs hv hw hhi; omega
  have q6 : w = (xh + yh - s + v) + (w - (xh + yh - s + v)) := by clear bx by_ hs hv hw hhi; omega
  have q7 : xh + yh = s + -(s - (xh + yh)) := by clear bx by_ hs hv hw hhi; omega
  have hM : (m + n).natAbs = m.natAbs + n.natAbs := Int.natAbs_add_of_nonneg hm hn
  have r1 := rn_rel (xh + yh)
  have r2 := rn_rel (xl + yl)
  have r3 := rn_rel (xh + yh - s + v)
  rw [hs] at r1
  rw [hv] at r2
  rw [hw] at r3
  have k1 := abs_two q1
  have k2 := abs_two (rfl : -xl + -yl = -xl + -yl)
  rw [Int.natAbs_neg xl, Int.natAbs_neg yl] at k2
  have k3 := abs_two q2
  have a3 : (xl + yl).natAbs ≤ xl.natAbs + yl.natAbs := abs_two rfl
  have k4 := abs_two q3
  rw [Int.natAbs_neg] at k4
  have k5 := abs_two q4
  have a5 := abs_two q5
  have a6 := abs_two q6
  have a7 := abs_two q7
  rw [Int.natAbs_neg] at a7
  have a1 : (xh + yh).natAbs ≤ (m + n).natAbs + xl.natAbs + yl.natAbs := by rw [Nat.add_assoc]; exact Nat.le_trans k1 (Nat.add_le_add_left k2 _)
  have a2 : (m + n).natAbs ≤ (xh + yh).natAbs + xl.natAbs + yl.natAbs := by rw [Nat.add_assoc]; exact Nat.le_trans k3 (Nat.add_le_add_left a3 _)
  have a4 : (xh + yh - s + v).natAbs ≤ (s - (xh + yh)).natAbs + ((xl + yl).natAbs + (v - (xl + yl)).natAbs) := Nat.le_trans k4 (Nat.add_le_add_left k5 _)
  obtain ⟨c1, c2⟩ := abs_lin hM bx by_ a1 a2 r1 a3 r2 a4 r3
  have hle : w.natAbs ≤ s.natAbs := by
    generalize w.natAbs = W at *
    generalize s.natAbs = S at *
    generalize (xh + yh).natAbs = X at *
    generalize (s - (xh + yh)).natAbs = e1 at *
    generalize (xh + yh - s + v).natAbs = N3 at *
    generalize (w - (xh + yh - s + v)).natAbs = e3 at *
    clear r1 r2 r3 k1 k2 k3 k4 k5 a1 a2 a3 a4 a5 bx by_ hM q1 q2 q3 q4 q5 q6 q7 hx hy hm hn c1
    omega
  refine ⟨?_, Nat.le_trans (Nat.mul_le_mul_right _ a5) c1⟩
  have := quick_sum hFs hFw hle
  rw [hhi] at this
  exact this

theorem st_a {a W : Nat} (h : 81129638414606681695789005144064 * a ≤ 9007199254740993 * W) : 4503599627370496 * a ≤ W := by omega
theorem st_X {X W : Nat} (h : 81129638414606681695789005144064 * X ≤ 81129638414606699710187514626049 * W) : X ≤ 2 * W := by omega
theorem st_Y {X W : Nat} (h : 81129638414606663681390495662081 * W ≤ 81129638414606681695789005144064 * X) : W ≤ 2 * X := by omega
theorem st_E {E a W D : Nat} (h : 9007199254740992 * E ≤ a + D * 4503599627370496) (ha : 4503599627370496 * a ≤ W) (hD : D * 1329227995784915872903807060280344576 ≤ W) : 20282409603651670423947251286016 * E ≤ W := by
  have h1 : 40564819207303340847894502572032 * E ≤ 4503599627370496 * a + D * 20282409603651670423947251286016 := by omega
  omega
theorem st_U {U a b d e W : Nat} (h : U ≤ a + b + (d + e)) (h1 : 4503599627370496 * a ≤ W) (h2 : 20282409603651670423947251286016 * b ≤ W) (h3 : 4503599627370496 * d ≤ W) (h4 : 20282409603651670423947251286016 * e ≤ W) : 1125899906842624 * U ≤ W := by
  have h5 : 4503599627370496 * b ≤ W := by omega
  have h6 : 4503599627370496 * e ≤ W := by omega
  clear h2 h4
  omega
theorem st_u {e U W : Nat} (h : 9007199254740992 * e ≤ U) (h1 : 1125899906842624 * U ≤ W) : 10141204801825835211973625643008 * e ≤ W := by omega
theorem st_V {V U e W : Nat} (h : V ≤ U + e) (h1 : 1125899906842624 * U ≤ W) (h2 : 10141204801825835211973625643008 * e ≤ W) : 562949953421312 * V ≤ W := by
  have h3 : 1125899906842624 * e ≤ W := by omega
  clear h2
  omega
theorem st_Q {q X W : Nat} (h : 9007199254740992 * q ≤ X) (h1 : X ≤ 2 * W) : 4503599627370496 * q ≤ W := by omega
theorem st_N {n q V W : Nat} (h : n ≤ q + V) (h1 : 4503599627370496 * q ≤ W) (h2 : 562949953421312 * V ≤ W) : 281474976710656 * n ≤ W := by omega
theorem st_w {e n W : Nat} (h : 9007199254740992 * e ≤ n) (h1 : 281474976710656 * n ≤ W) : 2535301200456458802993406410752 * e ≤ W := by omega
theorem st_all {a b d e f W : Nat} (h1 : 2535301200456458802993406410752 * a ≤ W) (h2 : 10141204801825835211973625643008 * b ≤ W) (h3 : 20282409603651670423947251286016 * d ≤ W) (h4 : 20282409603651670423947251286016 * e ≤ W) (h5 : 81129638414606681695789005144064 * f ≤ W) : (a + (b + (d + (e + f)))) * 316912650057057350374175801344 ≤ W := by
  have k1 : 2535301200456458802993406410752 * b ≤ W := by omega
  have k2 : 2535301200456458802993406410752 * d ≤ W := by omega
  have k3 : 2535301200456458802993406410752 * e ≤ W := by omega
  have k4 : 2535301200456458802993406410752 * f ≤ W := by omega
  clear h2 h3 h4 h5
  omega
theorem st_le {n e q W X : Nat} (h1 : 281474976710656 * n ≤ W) (h2 : 2535301200456458802993406410752 * e ≤ W) (h3 : 4503599627370496 * q ≤ W) (h4 : W ≤ 2 * X) : n + e + q ≤ X := by
  have k1 : 281474976710656 * e ≤ W := by omega
  have k2 : 281474976710656 * q ≤ W := by omega
  clear h2 h3
  omega
theorem lin_mul {W a1 a2 a3 X2 E1 E2 U12 Eu U Qp N Ew D : Nat} (ha1 : 81129638414606681695789005144064 * a1 ≤ 9007199254740993 * W) (ha2 : 81129638414606681695789005144064 * a2 ≤ 9007199254740993 * W) (ha3 : 81129638414606681695789005144064 * a3 ≤ W) (hX : 81129638414606663681390495662081 * W ≤ 81129638414606681695789005144064 * X2) (hX2 : 81129638414606681695789005144064 * X2 ≤ 81129638414606699710187514626049 * W)
    (hE1 : 9007199254740992 * E1 ≤ a1 + D * 4503599627370496) (hE2 : 9007199254740992 * E2 ≤ a2 + D * 4503599627370496) (hU12 : U12 ≤ a1 + E1 + (a2 + E2)) (hEu : 9007199254740992 * Eu ≤ U12) (hU : U ≤ U12 + Eu) (hQp : 9007199254740992 * Qp ≤ X2) (hN : N ≤ Qp + U) (hEw : 9007199254740992 * Ew ≤ N) (hD : D * 1329227995784915872903807060280344576 ≤ W) :
    (Ew + (Eu + (E1 + (E2 + a3)))) * 316912650057057350374175801344 ≤ W ∧ N + Ew + Qp ≤ X2 := by
  have b1 := st_a ha1
  have b2 := st_a ha2
  have e1 := st_E hE1 b1 hD
  have e2 := st_E hE2 b2 hD
  have u1 := st_U hU12 b1 e1 b2 e2
  have u2 := st_u hEu u1
  have u3 := st_V hU u1 u2
  have q1 := st_Q hQp (st_X hX2)
  have n1 := st_N hN q1 u3
  have w1 := st_w hEw n1
  exact ⟨st_all w1 u2 e1 e2 ha3, st_le n1 w1 q1 (st_Y hX)⟩
/-- Products of what is near. -/
theorem mul_bd {x y m n c d : Nat} (h1 : c * x ≤ d * m) (h2 : 9007199254740992 * y ≤ n) : (c * 9007199254740992) * (x * y) ≤ d * (m * n) := by
  have := Nat.mul_le_mul h1 h2
  rw [show c * 9007199254740992 * (x * y) = c * x * (9007199254740992 * y) by ac_rfl, show d * (m * n) = d * m * n by ac_rfl]
  exact this
theorem pair_mul {xh xl yh yl m n Q p u1 u2 u w hi : Int} {D : Nat} (hD0 : 0 < D) (hx : m = xh + xl) (hy : n = yh + yl) (bx : 9007199254740992 * xl.natAbs ≤ m.natAbs) (by_ : 9007199254740992 * yl.natAbs ≤ n.natAbs)
    (hQ : xh * yh = Q * (D : Int)) (hp : rn Q = p) (h1 : 9007199254740992 * (u1 * (D : Int) - xh * yl).natAbs ≤ (xh * yl).natAbs + D * 4503599627370496) (h2 : 9007199254740992 * (u2 * (D : Int) - xl * yh).natAbs ≤ (xl * yh).natAbs + D * 4503599627370496)
    (hu : rn (u1 + u2) = u) (hw : rn (Q - p + u) = w) (hhi : rn (p + w) = hi) (hD : D * 1329227995784915872903807060280344576 ≤ (m * n).natAbs) :
    rn (w - rn (hi - p)) = p + w - hi ∧ ((p + w) * (D : Int) - m * n).natAbs * 316912650057057350374175801344 ≤ (m * n).natAbs := by
  have hFp : Fl p := by rw [← hp]; exact rn_Fl _
  have hFw : Fl w := by rw [← hw]; exact rn_Fl _
  -- sizes of the parts
  have x1 : 9007199254740992 * xh.natAbs ≤ 9007199254740993 * m.natAbs := by
    have k := abs_two (show xh = m + -xl by clear bx by_ h1 h2 hD; omega)
    rw [Int.natAbs_neg] at k
    clear hx hy h1 h2 hD
    omega
  have x2 : 9007199254740991 * m.natAbs ≤ 9007199254740992 * xh.natAbs := by
    have k := abs_two hx
    clear hx hy h1 h2 hD
    omega
  have y1 : 9007199254740992 * yh.natAbs ≤ 9007199254740993 * n.natAbs := by
    have k := abs_two (show yh = n + -yl by clear bx by_ h1 h2 hD; omega)
    rw [Int.natAbs_neg] at k
    clear hx hy h1 h2 hD
    omega
  have y2 : 9007199254740991 * n.natAbs ≤ 9007199254740992 * yh.natAbs := by
    have k := abs_two hy
    clear hx hy h1 h2 hD
    omega
  have hW : (m * n).natAbs = m.natAbs * n.natAbs := Int.natAbs_mul _ _
  have ha1 : 81129638414606681695789005144064 * (xh * yl).natAbs ≤ 9007199254740993 * (m * n).natAbs := by
    rw [hW, Int.natAbs_mul]; exact mul_bd x1 by_
  have ha2 : 81129638414606681695789005144064 * (xl * yh).natAbs ≤ 9007199254740993 * (m * n).natAbs := by
    rw [hW, Int.natAbs_mul, Nat.mul_comm xl.natAbs, Nat.mul_comm m.natAbs]; exact mul_bd y1 bx
  have ha3 : 81129638414606681695789005144064 * (xl * yl).natAbs ≤ (m * n).natAbs := by
    rw [hW, Int.natAbs_mul]
    have := mul_bd (c := 9007199254740992) (d := 1) (by rw [Nat.one_mul]; exact bx) by_
    rw [Nat.one_mul] at this
    exact this
  have hX1 : 81129638414606663681390495662081 * (m * n).natAbs ≤ 81129638414606681695789005144064 * (xh * yh).natAbs := by
    rw [hW, Int.natAbs_mul]
    have := Nat.mul_le_mul x2 y2
    rw [show 9007199254740991 * m.natAbs * (9007199254740991 * n.natAbs) = 9007199254740991 * 9007199254740991 * (m.natAbs * n.natAbs) by ac_rfl, show 9007199254740992 * xh.natAbs * (9007199254740992 * yh.natAbs) = 9007199254740992 * 9007199254740992 * (xh.natAbs * yh.natAbs) by ac_rfl] at this
    exact this
  have hX2 : 81129638414606681695789005144064 * (xh * yh).natAbs ≤ 81129638414606699710187514626049 * (m * n).natAbs := by
    rw [hW, Int.natAbs_mul]
    have := Nat.mul_le_mul x1 y1
    rw [show 9007199254740993 * m.natAbs * (9007199254740993 * n.natAbs) = 9007199254740993 * 9007199254740993 * (m.natAbs * n.natAbs) by ac_rfl, show 9007199254740992 * xh.natAbs * (9007199254740992 * yh.natAbs) = 9007199254740992 * 9007199254740992 * (xh.natAbs * yh.natAbs) by ac_rfl] at this
    exact this
  have hmn : m * n = xh * yh + xh * yl + (xl * yh + xl * yl) := by rw [hx, hy, Int.add_mul, Int.mul_add, Int.mul_add]
  have r1 := rn_rel Q
  have r2 := rn_rel (u1 + u2)
  have r3 := rn_rel (Q - p + u)
  rw [hp] at r1
  rw [hu] at r2
  rw [hw] at r3
  have dm : ∀ x : Int, (x * (D : Int)).natAbs = x.natAbs * D := fun x => by rw [Int.natAbs_mul, Int.natAbs_natCast]
  have sc : ∀ {e t : Nat}, 9007199254740992 * e ≤ t → 9007199254740992 * (e * D) ≤ t * D := fun {e t} h => by rw [← Nat.mul_assoc]; exact Nat.mul_le_mul_right _ h
  have sa : ∀ {a b c : Nat}, a ≤ b + c → a * D ≤ b * D + c * D := fun {a b c} h => by rw [← Nat.add_mul]; exact Nat.mul_le_mul_right _ h
  -- the chain
  have u1' : u1.natAbs * D ≤ (xh * yl).natAbs + (u1 * (D : Int) - xh * yl).natAbs := by rw [← dm]; exact abs_two (by clear bx by_ h1 h2 hD r1 r2 r3 ha1 ha2 ha3 hX1 hX2; omega)
  have u2' : u2.natAbs * D ≤ (xl * yh).natAbs + (u2 * (D : Int) - xl * yh).natAbs := by rw [← dm]; exact abs_two (by clear bx by_ h1 h2 hD r1 r2 r3 ha1 ha2 ha3 hX1 hX2; omega)
  have hU12 : (u1 + u2).natAbs * D ≤ (xh * yl).natAbs + (u1 * (D : Int) - xh * yl).natAbs + ((xl * yh).natAbs + (u2 * (D : Int) - xl * yh).natAbs) :=
    Nat.le_trans (sa (abs_two rfl)) (Nat.add_le_add u1' u2')
  have q1 : u = u1 + u2 + (u - (u1 + u2)) := by clear bx by_ h1 h2 hD r1 r2 r3 ha1 ha2 ha3 hX1 hX2 u1' u2' hU12; omega
  have q2 : Q - p + u = -(p - Q) + u := by clear bx by_ h1 h2 hD r1 r2 r3 ha1 ha2 ha3 hX1 hX2 u1' u2' hU12; omega
  have q3 : w = (Q - p + u) + (w - (Q - p + u)) := by clear bx by_ h1 h2 hD r1 r2 r3 ha1 ha2 ha3 hX1 hX2 u1' u2' hU12; omega
  have q4 : Q = p + -(p - Q) := by clear bx by_ h1 h2 hD r1 r2 r3 ha1 ha2 ha3 hX1 hX2 u1' u2' hU12; omega
  have hU := sa (abs_two q1)
  have hN0 := abs_two q2
  rw [Int.natAbs_neg] at hN0
  have hN := sa hN0
  have hXD : (xh * yh).natAbs = Q.natAbs * D := by rw [hQ, dm]
  have hQp := sc r1
  rw [← hXD] at hQp
  obtain ⟨c1, c2⟩ := lin_mul ha1 ha2 ha3 hX1 hX2 h1 h2 hU12 (sc r2) hU hQp hN (sc r3) hD
  have hw1 := sa (abs_two q3)
  have hQ1 := abs_two q4
  rw [Int.natAbs_neg] at hQ1
  have hQ2 := sa hQ1
  rw [← hXD] at hQ2
  have hle : w.natAbs ≤ p.natAbs := by
    refine Nat.le_of_mul_le_mul_right (c := D) ?_ hD0
    generalize w.natAbs * D = a at *
    generalize p.natAbs * D = b at *
    generalize (xh * yh).natAbs = X at *
    generalize (p - Q).natAbs * D = e at *
    generalize (Q - p + u).natAbs * D = f at *
    generalize (w - (Q - p + u)).natAbs * D = g at *
    clear c1 h1 h2 hD ha1 ha2 ha3 hX1 hX2 hU12 hU hQp hN r1 r2 r3 bx by_ u1' u2' x1 x2 y1 y2 hW hN0 hQ1 hmn q1 q2 q3 q4 hx hy hQ
    omega
  refine ⟨?_, ?_⟩
  · have := quick_sum hFp hFw hle
    rw [hhi] at this
    exact this
  · refine Nat.le_trans (Nat.mul_le_mul_right _ ?_) c1
    have hsplit : (p + w) * (D : Int) - m * n = (w - (Q - p + u)) * (D : Int) + ((u - (u1 + u2)) * (D : Int) + ((u1 * (D : Int) - xh * yl) + ((u2 * (D : Int) - xl * yh) + -(xl * yl)))) := by
      rw [hmn, hQ]
      simp only [Int.add_mul, Int.sub_mul]
      generalize p * (D : Int) = a1
      generalize w * (D : Int) = a2
      generalize Q * (D : Int) = a3
      generalize u * (D : Int) = a4
      generalize u1 * (D : Int) = a5
      generalize u2 * (D : Int) = a6
      generalize xh * yl = a7
      generalize xl * yh = a8
      generalize xl * yl = a9
      clear c1 c2 h1 h2 hD ha1 ha2 ha3 hX1 hX2 hU12 hU hQp hN r1 r2 r3 bx by_ u1' u2' x1 x2 y1 y2 hW hN0 hQ1 hQ2 hw1 hle hXD
      omega
    have t1 := abs_two hsplit
    have t2 := abs_two (rfl : (u - (u1 + u2)) * (D : Int) + ((u1 * (D : Int) - xh * yl) + ((u2 * (D : Int) - xl * yh) + -(xl * yl))) = _)
    have t3 := abs_two (rfl : (u1 * (D : Int) - xh * yl) + ((u2 * (D : Int) - xl * yh) + -(xl * yl)) = _)
    have t4 := abs_two (rfl : (u2 * (D : Int) - xl * yh) + -(xl * yl) = _)
    rw [Int.natAbs_neg] at t4
    rw [dm] at t1 t2
    exact Nat.le_trans t1 (Nat.add_le_add_left (Nat.le_trans t2 (Nat.add_le_add_left (Nat.le_trans t3 (Nat.add_le_add_left t4 _)) _)) _)
end Go.Proofs.Ytfccpjjdemanbaa
