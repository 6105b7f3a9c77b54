/- Texts joined into one, in build order: RnMath, RnCut, RnTo, RnAll, RnDo, RnOrd, NxMath, NxUp, NxMid, NxBeside, NxBreak, NxFloor, NxBetween, NxLaw, NxBack, NxCount. -/
import Derived.Test.YtgacafdkhailmaaDoorFlMath
import Derived.Test.YtgacafdkhailmaaDoorFlExact
import Derived.Test.YtgacafdkhailmaaDoorDyAdd
import Derived.Deep.Cut
import Derived.Test.YtgacafdkhailmaaDoorFlAlive
/- Rounding, as plain mathematics: the size that bits are worth, which bits lie below a size, what a number is rounded to; by the program's way (rndO) and by sizes (rndS). -/
namespace Go.Proofs.YtgacafdkhailmaaDoor

/-- Where the least unit lies: a number that nothing reckons with. -/
noncomputable def kb : Nat := Classical.choose (⟨2147482574, rfl⟩ : ∃ k : Nat, k = 2147482574)
theorem kb_eq : kb = 2147482574 := Classical.choose_spec (⟨2147482574, rfl⟩ : ∃ k : Nat, k = 2147482574)
/-- The size of bits without a sign; infinity's is 2^1024. -/
noncomputable def vX (X : Nat) : Nat := fm X * 2 ^ (fE X + kb)

theorem vX_parts {L U X : Nat} (hX : X = L * 4503599627370496 + U) (hU : U ≤ 9007199254740992) (h2 : 0 < L → 4503599627370496 ≤ U) (hL : L ≤ 2045) : vX X = U * 2 ^ (L + kb) := by
  unfold vX
  rcases Nat.lt_or_ge U 4503599627370496 with h | h
  · have hL0 : L = 0 := by omega
    subst hL0
    have e1 : fex X = 0 := by unfold fex; omega
    have e2 : ffr X = U := by unfold ffr; omega
    rw [fm, if_pos e1, e2, fE, e1]
  · rcases Nat.lt_or_ge U 9007199254740992 with h' | h'
    · have e1 : fex X = L + 1 := by unfold fex; omega
      have e2 : ffr X = U - 4503599627370496 := by unfold ffr; omega
      rw [fm, if_neg (by omega), e2, fE, e1, Nat.add_sub_cancel, Nat.sub_add_cancel h]
    · have e0 : U = 9007199254740992 := by omega
      subst e0
      have e1 : fex X = L + 2 := by unfold fex; omega
      have e2 : ffr X = 0 := by unfold ffr; omega
      rw [fm, if_neg (by omega), e2, fE, e1, show L + 2 - 1 + kb = (L + kb) + 1 by omega, Nat.pow_succ]
      generalize 2 ^ (L + kb) = D
      omega
/-- The bits' own parts. -/
theorem x_parts {X : Nat} (h : X < 9218868437227405312) : X = fE X * 4503599627370496 + fm X ∧ fm X < 9007199254740992 ∧ (0 < fE X → 4503599627370496 ≤ fm X) ∧ fE X ≤ 2045 := by
  obtain ⟨p1, p2, p3, p4⟩ := f_parts X
  have hf : Fnt X := by unfold Fnt fex; omega
  exact ⟨by omega, p2, p3, p4 hf⟩
theorem vX_next {X : Nat} (h : X < 9218868437227405312) : vX (X + 1) = vX X + 2 ^ (fE X + kb) := by
  obtain ⟨p1, p2, p3, p4⟩ := x_parts h
  have h1 := vX_parts (L := fE X) (U := fm X + 1) (X := X + 1) (by omega) (by omega) (by omega) p4
  rw [h1, Nat.add_mul, Nat.one_mul]; rfl
theorem vX_lt {X : Nat} (h : X < 9218868437227405312) : vX X < vX (X + 1) := by
  rw [vX_next h]; exact Nat.lt_add_of_pos_right (Nat.two_pow_pos _)
theorem vX_mono {X d : Nat} (h : X + d ≤ 9218868437227405312) : vX X ≤ vX (X + d) := by
  induction d with
  | zero => exact Nat.le_refl _
  | succ d ih =>
    have h1 := ih (by omega)
    have h2 := vX_lt (X := X + d) (by omega)
    rw [← Nat.add_assoc]
    omega
theorem vX_le {X Y : Nat} (h : X ≤ Y) (hY : Y ≤ 9218868437227405312) : vX X ≤ vX Y := by
  have := vX_mono (X := X) (d := Y - X) (by omega)
  rwa [Nat.add_sub_cancel' h] at this

/-- The greatest bits that are worth at most S. -/
def IsLow (S X : Nat) : Prop := X ≤ 9218868437227405312 ∧ vX X ≤ S ∧ (X < 9218868437227405312 → S < vX (X + 1))
theorem IsLow.not_lt {S X Y : Nat} (hX : IsLow S X) (hY : IsLow S Y) : ¬ X < Y := by
  intro h
  have h1 := hX.2.2 (by have := hY.1; omega)
  have h2 := vX_le (X := X + 1) (Y := Y) h hY.1
  have h3 := hY.2.1
  omega
theorem IsLow.uniq {S X Y : Nat} (hX : IsLow S X) (hY : IsLow S Y) : X = Y := by
  have h1 := hX.not_lt hY
  have h2 := hY.not_lt hX
  omega
theorem IsLow.mono {S T X Y : Nat} (hX : IsLow S X) (hY : IsLow T Y) (h : S ≤ T) : X ≤ Y := by
  rcases Nat.lt_or_ge Y X with h' | h'
  · have h1 := hY.2.2 (by have := hX.1; omega)
    have h2 := vX_le (X := Y + 1) (Y := X) h' hX.1
    have h3 := hX.2.1
    omega
  · exact h'

/-- Does a size go up to the next unit? -/
def awy (g : Bool) (dir : Int) (odd half below : Bool) : Bool :=
  if dir = 0 then half && (below || odd) else if dir = 2 then !g && (half || below) else if dir = 3 then g && (half || below) else false
theorem awy_all {g : Bool} {dir : Int} {odd half below : Bool} (h : awy g dir odd half below = true) : awy g dir true true true = true := by
  unfold awy at *
  split
  · rfl
  · rename_i h0
    rw [if_neg h0] at h
    split
    · rename_i h1; rw [if_pos h1] at h; revert h; cases g <;> simp
    · rename_i h1
      rw [if_neg h1] at h
      split
      · rename_i h2; rw [if_pos h2] at h; revert h; cases g <;> simp
      · rename_i h2; rw [if_neg h2] at h; exact h
theorem awy_exact (g : Bool) (dir : Int) (odd : Bool) : awy g dir odd false false = false := by
  unfold awy
  cases g <;> simp

def sgn (g : Bool) (X : Nat) : Nat := (if g then 9223372036854775808 else 0) + X
def overM (g : Bool) (dir : Int) : Nat := if awy g dir true true true then 9218868437227405312 else 9218868437227405311
def overO (g : Bool) (dir : Int) : Nat × Nat := (sgn g (overM g dir), 5)
def upX (g : Bool) (dir : Int) (X : Nat) (half below : Bool) : Nat := X + (awy g dir (decide (X % 2 = 1)) half below).toNat
def fl (half below small : Bool) : Nat := if half || below then (if small then 3 else 1) else 0
/-- What comes of the bits below it. -/
def rfin (g : Bool) (dir : Int) (X : Nat) (half below small : Bool) : Nat × Nat :=
  if upX g dir X half below = 9218868437227405312 then overO g dir else (sgn g (upX g dir X half below), fl half below small)

def rtop (V : Nat) (e : Int) : Int := (blen V : Int) - 1 + e
def ru (V : Nat) (e : Int) : Int := max (rtop V e - 52) (-1074)
def rU (V : Nat) (e u : Int) : Nat := if u ≤ e then V * 2 ^ (e - u).toNat else V / 2 ^ (u - e - 1).toNat / 2
def rH (V : Nat) (e u : Int) : Bool := if u ≤ e then false else decide (V / 2 ^ (u - e - 1).toNat % 2 = 1)
def rB (V : Nat) (e u : Int) : Bool := if u ≤ e then false else decide (V % 2 ^ (u - e - 1).toNat ≠ 0)
def rX (V : Nat) (e : Int) : Nat := (ru V e + 1074).toNat * 4503599627370496 + rU V e (ru V e)
def lowX (V : Nat) (e : Int) : Nat := if 1023 < rtop V e then 9218868437227405312 else rX V e
/-- By the program's way: of a number that isn't 0. -/
def rndO (g : Bool) (V : Nat) (e : Int) (more : Bool) (dir : Int) : Nat × Nat :=
  if 1023 < rtop V e then overO g dir else
  rfin g dir (rX V e) (rH V e (ru V e)) (rB V e (ru V e) || more) (decide (rtop V e < -1022))
/-- By sizes. -/
noncomputable def hS (S X : Nat) : Bool := decide (vX X + vX (X + 1) ≤ 2 * S)
noncomputable def bS (S X : Nat) : Bool := decide (S ≠ vX X ∧ 2 * S ≠ vX X + vX (X + 1))
noncomputable def rndS (g : Bool) (S : Nat) (more : Bool) (dir : Int) (X : Nat) : Nat × Nat :=
  if X = 9218868437227405312 then overO g dir else rfin g dir X (hS S X) (bS S X || more) (decide (S < vX 4503599627370496))

theorem cut_facts {P Q U h b V : Nat} (hP : 0 < P) (hh : h < 2) (hb : b < Q) (hV : V = (2 * U + h) * Q + b) :
    U * (2 * Q * P) ≤ V * P ∧ V * P < (U + 1) * (2 * Q * P) ∧ (U * (2 * Q * P) + (U + 1) * (2 * Q * P) ≤ 2 * (V * P) ↔ h = 1) ∧
    (V * P = U * (2 * Q * P) ↔ h = 0 ∧ b = 0) ∧ (2 * (V * P) = U * (2 * Q * P) + (U + 1) * (2 * Q * P) ↔ h = 1 ∧ b = 0) := by
  have e1 : U * (2 * Q * P) = (U * Q * 2) * P := by rw [← Nat.mul_assoc, ← Nat.mul_assoc, Nat.mul_right_comm U 2 Q]
  have e2 : (U + 1) * (2 * Q * P) = (U * Q * 2 + 2 * Q) * P := by rw [Nat.add_mul, e1, Nat.one_mul, ← Nat.add_mul]
  have e3 : V = U * Q * 2 + h * Q + b := by rw [hV, Nat.add_mul, Nat.mul_comm 2 U, Nat.mul_right_comm U 2 Q]
  have e4 : 2 * (V * P) = (2 * V) * P := (Nat.mul_assoc _ _ _).symm
  rw [e1, e2, e4, ← Nat.add_mul]
  have c1 : ∀ x y : Nat, x * P ≤ y * P ↔ x ≤ y := fun x y => Nat.mul_le_mul_right_iff hP
  have c2 : ∀ x y : Nat, x * P < y * P ↔ x < y := fun x y => Nat.mul_lt_mul_right hP
  have c3 : ∀ x y : Nat, x * P = y * P ↔ x = y := fun x y => ⟨fun h => Nat.eq_of_mul_eq_mul_right hP h, fun h => by rw [h]⟩
  rw [c1, c2, c1, c3, c3]
  generalize U * Q = A at *
  have hh' : h = 0 ∨ h = 1 := by omega
  rcases hh' with rfl | rfl
  · rw [Nat.zero_mul] at e3
    omega
  · rw [Nat.one_mul] at e3
    omega

theorem sh_eq {e : Int} (h1 : -1073741824 ≤ e) (h2 : e ≤ 1073741824) : (sh e : Int) = e + 2147483648 := by rw [sh_held, held_id h1 h2]

/-- The program's way is that of sizes. -/
theorem rnd_low {V : Nat} {e : Int} (hV : V ≠ 0) (h1 : -1073741824 ≤ e) (h2 : e ≤ 1073741824) (ht : rtop V e ≤ 1023) :
    rX V e < 9218868437227405312 ∧ vX (rX V e) ≤ sz V e ∧ sz V e < vX (rX V e + 1) ∧ rH V e (ru V e) = hS (sz V e) (rX V e) ∧ rB V e (ru V e) = bS (sz V e) (rX V e) := by
  have hB := blen_pos hV
  have hlt := lt_blen V
  have hge := blen_le hV
  obtain ⟨u, hu⟩ : ∃ u, ru V e = u := ⟨_, rfl⟩
  obtain ⟨t, htt⟩ : ∃ t, rtop V e = t := ⟨_, rfl⟩
  have hu2 := hu
  unfold ru at hu2
  rw [htt] at hu2 ht
  unfold rtop at htt
  obtain ⟨L, hL⟩ : ∃ L : Nat, (u + 1074).toNat = L := ⟨_, rfl⟩
  have hL1 : u = (L : Int) - 1074 := by omega
  have hL2 : L ≤ 2045 := by omega
  have hsh := sh_eq h1 h2
  have hkb := kb_eq
  unfold rX
  rw [hu, hL]
  unfold sz
  by_cases hue : u ≤ e
  · obtain ⟨k, hk⟩ : ∃ k, (e - u).toNat = k := ⟨_, rfl⟩
    have hU : rU V e u = V * 2 ^ k := by rw [rU, if_pos hue, hk]
    have hbl := blen_shl (n := k) hV
    have hUle : V * 2 ^ k < 9007199254740992 := (blen_le_iff (k := 53)).1 (by rw [hbl]; omega)
    have hUge : 0 < L → 4503599627370496 ≤ V * 2 ^ k := fun h => by
      have h5 : blen (V * 2 ^ k) = 53 := by rw [hbl]; omega
      have h6 := blen_le (x := V * 2 ^ k) (fun h0 => by rw [h0] at h5; cases h5)
      rw [h5] at h6
      exact h6
    have hS : V * 2 ^ sh e = V * 2 ^ k * 2 ^ (L + kb) := by rw [Nat.mul_assoc, ← Nat.pow_add]; congr 2; omega
    rw [hU, hS]
    have v1 := vX_parts (L := L) (U := V * 2 ^ k) rfl (by omega) hUge hL2
    have v2 := vX_parts (L := L) (U := V * 2 ^ k + 1) (X := L * 4503599627370496 + V * 2 ^ k + 1) (by omega) (by omega) (fun h => by have := hUge h; omega) hL2
    have hp := Nat.two_pow_pos (L + kb)
    rw [hS] at *
    unfold Go.Proofs.YtgacafdkhailmaaDoor.hS Go.Proofs.YtgacafdkhailmaaDoor.bS
    rw [v1, v2, rH, if_pos hue, rB, if_pos hue]
    generalize V * 2 ^ k = U at *
    generalize 2 ^ (L + kb) = D at *
    rw [Nat.add_mul, Nat.one_mul]
    generalize U * D = Z at *
    exact ⟨by omega, Nat.le_refl _, by omega, (decide_eq_false (by omega)).symm, (decide_eq_false (by omega)).symm⟩
  · obtain ⟨k, hk⟩ : ∃ k, (u - e - 1).toNat = k := ⟨_, rfl⟩
    have hU : rU V e u = V / 2 ^ k / 2 := by rw [rU, if_neg hue, hk]
    have hdiv : V / 2 ^ k / 2 = V / 2 ^ (k + 1) := by rw [Nat.div_div_eq_div_mul, Nat.pow_succ]
    have hUle : V / 2 ^ (k + 1) < 9007199254740992 := by
      rw [Nat.div_lt_iff_lt_mul (Nat.two_pow_pos _), show (9007199254740992 : Nat) = 2 ^ 53 from by decide, ← Nat.pow_add]
      exact blen_le_iff.1 (by omega)
    have hUge : 0 < L → 4503599627370496 ≤ V / 2 ^ (k + 1) := fun h => by
      rw [Nat.le_div_iff_mul_le (Nat.two_pow_pos _), show (4503599627370496 : Nat) = 2 ^ 52 from by decide, ← Nat.pow_add, show 52 + (k + 1) = blen V - 1 by omega]
      exact hge
    rw [← hdiv] at hUle hUge
    have hD : 2 ^ (L + kb) = 2 * 2 ^ k * 2 ^ sh e := by
      rw [show L + kb = (k + 1) + sh e by omega, Nat.pow_add, Nat.pow_succ, Nat.mul_comm (2 ^ k) 2]
    rw [hU]
    have v1 := vX_parts (L := L) (U := V / 2 ^ k / 2) rfl (by omega) hUge hL2
    have v2 := vX_parts (L := L) (U := V / 2 ^ k / 2 + 1) (X := L * 4503599627370496 + V / 2 ^ k / 2 + 1) (by omega) (by omega) (fun h => by have := hUge h; omega) hL2
    have hb := Nat.mod_lt V (Nat.two_pow_pos k)
    have hVV : V = (2 * (V / 2 ^ k / 2) + V / 2 ^ k % 2) * 2 ^ k + V % 2 ^ k := by
      rw [Nat.div_add_mod]
      have := Nat.div_add_mod V (2 ^ k)
      rw [Nat.mul_comm] at this
      exact this.symm
    obtain ⟨f1, f2, f3, f4, f5⟩ := cut_facts (P := 2 ^ sh e) (Q := 2 ^ k) (U := V / 2 ^ k / 2) (h := V / 2 ^ k % 2) (b := V % 2 ^ k) (V := V) (Nat.two_pow_pos _) (Nat.mod_lt _ (by decide)) hb hVV
    rw [← hD] at f1 f2 f3 f4 f5
    unfold Go.Proofs.YtgacafdkhailmaaDoor.hS Go.Proofs.YtgacafdkhailmaaDoor.bS
    rw [v1, v2, rH, if_neg hue, rB, if_neg hue, hk]
    refine ⟨by omega, f1, f2, ?_, ?_⟩
    · rw [decide_eq_decide]; exact f3.symm
    · rw [decide_eq_decide]
      constructor
      · intro h
        exact ⟨fun h' => h (f4.1 h').2, fun h' => h (f5.1 h').2⟩
      · rintro ⟨ha, hb'⟩ h0
        have h3 := Nat.mod_lt (V / 2 ^ k) (show 0 < 2 by decide)
        have h4 : V / 2 ^ k % 2 = 0 ∨ V / 2 ^ k % 2 = 1 := by omega
        rcases h4 with h4 | h4
        · exact ha (f4.2 ⟨h4, h0⟩)
        · exact hb' (f5.2 ⟨h4, h0⟩)

theorem vX_norm : vX 4503599627370496 = 2 ^ (52 + kb) := by
  have := vX_parts (L := 0) (U := 4503599627370496) (X := 4503599627370496) (by omega) (by omega) (by omega) (by omega)
  rw [this, Nat.zero_add, Nat.pow_add]
theorem vX_inf : vX 9218868437227405312 = 2 ^ (2098 + kb) := by
  have := vX_parts (L := 2045) (U := 9007199254740992) (X := 9218868437227405312) (by omega) (by omega) (by omega) (by omega)
  rw [this, show 2098 + kb = 53 + (2045 + kb) by omega, Nat.pow_add _ 53]
theorem blen_szR {V : Nat} {e : Int} (hV : V ≠ 0) (h1 : -1073741824 ≤ e) (h2 : e ≤ 1073741824) : (blen (sz V e) : Int) = rtop V e + 1 + 2147483648 := by
  rw [blen_sz e hV, topD, held_id h1 h2]; rfl
theorem small_iff {V : Nat} {e : Int} (hV : V ≠ 0) (h1 : -1073741824 ≤ e) (h2 : e ≤ 1073741824) : rtop V e < -1022 ↔ sz V e < vX 4503599627370496 := by
  rw [vX_norm, ← blen_le_iff]
  have := blen_szR hV h1 h2
  have := kb_eq
  omega
theorem great_iff {V : Nat} {e : Int} (hV : V ≠ 0) (h1 : -1073741824 ≤ e) (h2 : e ≤ 1073741824) : 1023 < rtop V e ↔ vX 9218868437227405312 ≤ sz V e := by
  rw [vX_inf, ← Nat.not_lt, ← blen_le_iff]
  have := blen_szR hV h1 h2
  have := kb_eq
  omega

theorem low_is {V : Nat} {e : Int} (hV : V ≠ 0) (h1 : -1073741824 ≤ e) (h2 : e ≤ 1073741824) : IsLow (sz V e) (lowX V e) := by
  unfold lowX
  by_cases ht : 1023 < rtop V e
  · rw [if_pos ht]
    exact ⟨Nat.le_refl _, (great_iff hV h1 h2).1 ht, fun h => absurd h (by omega)⟩
  · rw [if_neg ht]
    obtain ⟨a, b, c, _, _⟩ := rnd_low hV h1 h2 (by omega)
    exact ⟨by omega, b, fun _ => c⟩
theorem rndO_S {V : Nat} {e : Int} (g more : Bool) (dir : Int) {X : Nat} (hV : V ≠ 0) (h1 : -1073741824 ≤ e) (h2 : e ≤ 1073741824) (hX : IsLow (sz V e) X) : rndO g V e more dir = rndS g (sz V e) more dir X := by
  obtain rfl := hX.uniq (low_is hV h1 h2)
  unfold rndO rndS lowX
  by_cases ht : 1023 < rtop V e
  · rw [if_pos ht, if_pos ht, if_pos rfl]
  · obtain ⟨a, b, c, d, f⟩ := rnd_low hV h1 h2 (by omega)
    rw [if_neg ht, if_neg ht, if_neg (by omega), d, f]
    congr 1
    rw [decide_eq_decide]
    exact small_iff hV h1 h2

end Go.Proofs.YtgacafdkhailmaaDoor

/- The walks of round.known, away, signed, raised, Over, Under, up, cut, count. -/
namespace Go.Proofs.YtgacafdkhailmaaDoor
open Go.RowKit



theorem or_sign' (X : Nat) (hX : X < 9223372036854775808) : bits BinOp.or IntKind.u64 (X : Int) 9223372036854775808 = ((9223372036854775808 + X : Nat) : Int) := by
  have h := bits_or_u64_nat X 9223372036854775808 (by omega) (by decide)
  have h2 : X ||| 9223372036854775808 = 9223372036854775808 + X := by
    rw [Nat.or_comm]; exact (Nat.shiftLeft_add_eq_or_of_lt (i := 63) (b := X) (show X < 2 ^ 63 from hX) 1).symm
  rw [h2] at h
  exact h




/-- Noughts made, and limbs behind them. -/
theorem app_zeros64 (w : World) (A : Option Addr) (n c q : Nat) (ds : List Nat) (hA : Row .u64 w A n c ds) (hn : n ≤ 4294967296) (hq : q ≤ 1000000) :
    ∃ A' c' w', (Builtin.append_ #[26, 26] 26 #[.slice (some ⟨w.heap.size, 0, none⟩) q q, .slice A n c]).run Tryd.prog (w.alloc (.cells (madeCells #[.int .u64 0] q) 22)) = .ok (.slice A' (q + n) c') w' ∧
      Row .u64 w' A' (q + n) c' (List.replicate q 0 ++ ds) ∧ Below w.heap.size w w' := by
  have hb : Below w.heap.size w (w.alloc (.cells (madeCells #[.int .u64 0] q) 22)) := (Below.refl _ _).alloc (Nat.le_refl _) _
  have hown : Own .u64 22 (w.alloc (.cells (madeCells #[.int .u64 0] q) 22)) w.heap.size (.slice (some ⟨w.heap.size, 0, none⟩) q q) (List.replicate q 0) := by
    refine ⟨by simp, Or.inr ⟨w.heap.size, q, madeCells #[.int .u64 0] q, by simp, Nat.le_refl _, heap_alloc_new w _, by simp, by unfold maxLen; omega, by rw [size_madeCells]; omega, ?_⟩⟩
    have hr := World.rowIs_made w (.int .u64 0) q 22
    apply List.ext_getElem?
    intro k
    by_cases hk : k < q
    · have hc := hr.cell hk
      rw [cell_of_row _ w.heap.size k (madeCells #[.int .u64 0] q) 22 (0, 0) (heap_alloc_new w _)] at hc
      rw [List.getElem?_take_of_lt (by simpa using hk), Array.getElem?_toList, hc, List.getElem?_map, List.getElem?_replicate, if_pos hk]
      rfl
    · rw [List.getElem?_eq_none (by rw [List.length_take, List.length_replicate]; omega), List.getElem?_eq_none (by simp; omega)]
  obtain ⟨v', w', hrun, ho, hb'⟩ := run_app (P := Tryd.prog) (T := 26) (ty := 26) Tryd.underlying26 info64 hown (hA.below hb) hb.size (by simp; omega) (by simp; omega)
  obtain ⟨A1, c1, rfl, hr⟩ := ho.row
  have el : (List.replicate q 0 ++ ds).length = q + n := by rw [List.length_append, List.length_replicate, hA.len]
  rw [el] at hrun hr
  exact ⟨A1, c1, w', hrun, hr, hb.trans hb'⟩


end Go.Proofs.YtgacafdkhailmaaDoor

/- The walks of round.cut, count, laid. -/
namespace Go.Proofs.YtgacafdkhailmaaDoor
open Go.RowKit

theorem quiet_one {P : Program} {f : FuncId} {args : Array Value} {w : World} {n : Nat} {v : Value}
    (h : Calls P f args (w.drewN n) fun e w' => e = .returned v ∧ w.drewN n = w') : Calls P f args (w.drewN n) fun e w'' => e = .returned v ∧ ∃ m, w'' = w.drewN m :=
  h.mono fun _ _ ⟨he, hm⟩ => ⟨he, n, hm.symm⟩
/-- A number and two values. -/
def TellsC (w : World) (V L : Nat) (p q : Bool) (e : Ending) (w' : World) : Prop :=
  ∃ A m c zs, e = .returned (.tuple #[.slice A m c, .bool p, .bool q]) ∧ m ≤ L ∧ Lim w' A m c zs ∧ Bare zs ∧ val zs = V ∧ Below w.heap.size w w'



end Go.Proofs.YtgacafdkhailmaaDoor

/- The walks of round.laid, checked, To. -/
namespace Go.Proofs.YtgacafdkhailmaaDoor
open Go.RowKit

theorem nO_shift (g : Bool) {V k : Nat} {e : Int} (h1 : -1073741824 ≤ e) (h2 : e + k ≤ 1073741824) (hV : V ≠ 0) : nO g (V * 2 ^ k) e = nO g V (e + k) := by
  have hV2 : V * 2 ^ k ≠ 0 := Nat.mul_ne_zero hV (Nat.pos_iff_ne_zero.1 (Nat.two_pow_pos _))
  obtain ⟨m, hm⟩ := low_spec (Nat.pos_of_ne_zero hV)
  have hl : low (V * 2 ^ k) = low V + k := low_eq (m := m) (by
    generalize low V = l at hm
    rw [hm, Nat.pow_add, Nat.mul_assoc, Nat.mul_comm (2 * m + 1), ← Nat.mul_assoc])
  rw [nO_pos g _ hV2, nO_pos g _ hV, held_id h1 (by omega), held_id (by omega) h2, hl, Nat.pow_add, Nat.mul_div_mul_right _ _ (Nat.two_pow_pos _)]
  congr 1
  omega
/-- So many units, as bits. -/
theorem ex_round {L U : Nat} {u : Int} (hu : u = (L : Int) - 1074) (hL : L ≤ 2045) (hU : U ≤ 9007199254740992) (h2 : 0 < L → 4503599627370496 ≤ U) :
    exD (nO false U u) = if L * 4503599627370496 + U = 9218868437227405312 then (0, false) else (L * 4503599627370496 + U, true) := by
  have own : ∀ (L' U' : Nat), L' ≤ 2045 → U' < 9007199254740992 → (0 < L' → 4503599627370496 ≤ U') → exD (nO false U' ((L' : Int) - 1074)) = (L' * 4503599627370496 + U', true) := by
    intro L' U' hL' hU' h2'
    obtain ⟨f1, f2, f3, f4, f5⟩ := f_of (L := L') (M := U') false (X := L' * 4503599627370496 + U') hU' h2' hL' (by simp)
    have hb := exD_back f1 f2
    unfold fO at hb
    rw [f3, f5, fe, f4] at hb
    rw [hb]
    split
    · rename_i h0
      have : L' = 0 := by
        rcases Nat.eq_zero_or_pos L' with h | h
        · exact h
        · have := h2' h; omega
      rw [h0, this]
    · rfl
  rcases Nat.lt_or_ge U 9007199254740992 with h | h
  · rw [if_neg (by omega), hu]
    exact own L U hL h h2
  · have e0 : U = 9007199254740992 := by omega
    subst e0
    have e1 : nO false 9007199254740992 u = nO false 4503599627370496 (((L + 1 : Nat) : Int) - 1074) := by
      have := nO_shift false (V := 4503599627370496) (k := 1) (e := u) (by omega) (by omega) (by decide)
      rw [show (4503599627370496 : Nat) * 2 ^ 1 = 9007199254740992 from by decide] at this
      rw [this]
      congr 1
      omega
    rcases Nat.lt_or_ge L 2045 with hL' | hL'
    · rw [if_neg (by omega), e1, own (L + 1) 4503599627370496 (by omega) (by decide) (fun _ => Nat.le_refl _), show (L + 1) * 4503599627370496 + 4503599627370496 = L * 4503599627370496 + 9007199254740992 by omega]
    · have e2 : L = 2045 := by omega
      subst e2
      rw [if_pos (by decide), e1]
      have e3 := nO_shift false (V := 1) (k := 52) (e := ((2045 + 1 : Nat) : Int) - 1074) (by decide) (by decide) (by decide)
      rw [show 1 * 2 ^ 52 = 4503599627370496 from by decide] at e3
      rw [e3]
      decide
theorem mk_units {U : Nat} {u : Int} (h1 : -1074 ≤ u) (h2 : u ≤ 971) (hU : U ≤ 9007199254740992) : mk false U u = some (nO false U u) := by
  rw [mk_nO]
  by_cases h0 : U = 0
  · subst h0; rfl
  · have hl := low_le_blen U
    have hb : blen U ≤ 54 := (blen_le_iff (k := 54)).2 (by omega)
    have hh : held u = u := held_id (by omega) (by omega)
    have hV : U / 2 ^ low U ≠ 0 := fun h => h0 (odd_part_zero.1 h)
    rw [nO_pos false u h0]
    show toldD false (U / 2 ^ low U) (held u + low U) = _
    rw [toldD, if_neg hV, if_neg (by omega)]
theorem nO_bd (U : Nat) (u : Int) (h1 : -1074 ≤ u) (h2 : u ≤ 971) (hU : U ≤ 9007199254740992) : nO (nO false U u).neg (nO false U u).V (nO false U u).e = nO false U u := by
  have hf := (mk_fine (mk_units h1 h2 hU)).1
  exact nO_self (nO_odd false U u) (by have := hf.1; omega) (by have := hf.2.1; omega)

/-- The units' place and number. -/
theorem ru_facts {V : Nat} {e : Int} (hV : V ≠ 0) (h1 : -1073741824 ≤ e) (h2 : e ≤ 1073741824) (ht : rtop V e ≤ 1023) :
    ∃ L : Nat, (ru V e + 1074).toNat = L ∧ ru V e = (L : Int) - 1074 ∧ L ≤ 2045 ∧ e ≤ ru V e + 63 ∧ rU V e (ru V e) < 9007199254740992 ∧ (0 < L → 4503599627370496 ≤ rU V e (ru V e)) := by
  obtain ⟨a, b, c, _, _⟩ := rnd_low hV h1 h2 ht
  have hB := blen_pos hV
  have hr : ru V e = max (rtop V e - 52) (-1074) := rfl
  have hrt : rtop V e = (blen V : Int) - 1 + e := rfl
  refine ⟨(ru V e + 1074).toNat, rfl, by omega, by omega, by omega, ?_⟩
  have hlt := lt_blen V
  have hge := blen_le hV
  generalize ru V e = u at hr ⊢
  rw [hrt] at hr ht
  clear a b c hrt
  by_cases hue : u ≤ e
  · obtain ⟨k, hk⟩ : ∃ k, (e - u).toNat = k := ⟨_, rfl⟩
    rw [rU, if_pos hue, hk]
    have hbl := blen_shl (n := k) hV
    refine ⟨(blen_le_iff (k := 53)).1 (by rw [hbl]; omega), fun h => ?_⟩
    have h5 : blen (V * 2 ^ k) = 53 := by rw [hbl]; omega
    have h6 := blen_le (x := V * 2 ^ k) (fun h0 => by rw [h0] at h5; cases h5)
    rw [h5] at h6
    exact h6
  · obtain ⟨k, hk⟩ : ∃ k, (u - e - 1).toNat = k := ⟨_, rfl⟩
    rw [rU, if_neg hue, hk, Nat.div_div_eq_div_mul, ← Nat.pow_succ]
    constructor
    · rw [Nat.div_lt_iff_lt_mul (Nat.two_pow_pos _), show (9007199254740992 : Nat) = 2 ^ 53 from by decide, ← Nat.pow_add]
      exact blen_le_iff.1 (by omega)
    · intro h
      rw [Nat.le_div_iff_mul_le (Nat.two_pow_pos _), show (4503599627370496 : Nat) = 2 ^ 52 from by decide, ← Nat.pow_add, show 52 + (k + 1) = blen V - 1 by omega]
      exact hge


end Go.Proofs.YtgacafdkhailmaaDoor

/- The walks of round.checked and round.To. -/
namespace Go.Proofs.YtgacafdkhailmaaDoor
open Go.RowKit

/-- What can be rounded. -/
def chk (o : Option Dy) (more : Bool) (dir : Int) : Option Dy :=
  if 0 ≤ dir ∧ dir ≤ 3 then (match o with | none => none | some d => if d.V = 0 ∧ more = true then none else some d) else none
def ChTold (w : World) (o : Option Dy) (L : Nat) (e : Ending) (w' : World) : Prop :=
  match o with
  | none => e = .returned (.tuple #[.agg #[.bool false, .slice none 0 0, .int .i64 0], .int .i64 1]) ∧ Below w.heap.size w w'
  | some d => ∃ A m c zs, e = .returned (.tuple #[.agg #[.bool d.neg, .slice A m c, .int .i64 d.e], .int .i64 0]) ∧ m ≤ L ∧ Lim w' A m c zs ∧ Bare zs ∧ val zs = d.V ∧ Below w.heap.size w w'


/-- What To tells. -/
def toR (g : Bool) (V : Nat) (e : Int) (more : Bool) (dir : Int) : Nat × Nat × Int :=
  match chk (mk g V e) more dir with
  | none => (0, 0, 1)
  | some d => if d.V = 0 then (0, 0, 0) else ((rndO d.neg d.V d.e more dir).1, (rndO d.neg d.V d.e more dir).2, 0)


end Go.Proofs.YtgacafdkhailmaaDoor

/- Rounding keeps order; it is mirrored; what bits are worth stays; a little more is as a thousandth. -/
namespace Go.Proofs.YtgacafdkhailmaaDoor
open Go.RowKit

theorem toldD_self {d : Dy} (h : Fine d) : toldD d.neg d.V d.e = some d := by
  obtain ⟨g, V, e⟩ := d
  unfold toldD
  by_cases h0 : V = 0
  · obtain ⟨h1, h2⟩ := h.2.2 h0
    simp only at h1 h2 h0 ⊢
    rw [if_pos h0, h1, h2, h0]
  · have h1 : -1073741824 ≤ e := h.1
    have h2 : e ≤ 1073741824 := h.2.1
    simp only
    rw [if_neg h0, if_neg (by omega)]
/-- What is bare stays. -/
theorem mk_self {g : Bool} {V : Nat} {e : Int} {d : Dy} (h : mk g V e = some d) : mk d.neg d.V d.e = some d := by
  have hf := (mk_fine h).1
  have hO : Odd d := by rw [← mk_is h]; exact nO_odd g V e
  have hs : nO d.neg d.V d.e = d := nO_self hO (by have := hf.1; omega) (by have := hf.2.1; omega)
  rw [mk_nO, hs]
  exact toldD_self hf
theorem mk_pos {g : Bool} {V : Nat} {e : Int} {d : Dy} (h : mk g V e = some d) (hV : V ≠ 0) : d.neg = g ∧ d.V ≠ 0 ∧ sz d.V d.e = sz V e := by
  obtain ⟨h1, h2, h3, _⟩ := mk_fine h
  have h4 := (toldD_fine h).2.2 (fun h0 => hV (odd_part_zero.1 h0))
  refine ⟨h4.1, fun h0 => hV (h3.1 h0), ?_⟩
  have h5 : ∀ (g : Bool) (V : Nat) (e : Int), (dw g V e).natAbs = sz V e := fun g V e => by cases g <;> simp [dw]
  rw [← h5 d.neg, ← h5 g, h2]

theorem toR_some {g : Bool} {V : Nat} {e : Int} {more : Bool} {dir : Int} {d : Dy} (hd : 0 ≤ dir ∧ dir ≤ 3) (h : mk g V e = some d) (hV : d.V ≠ 0) :
    toR g V e more dir = ((rndO d.neg d.V d.e more dir).1, (rndO d.neg d.V d.e more dir).2, 0) := by
  unfold toR chk
  rw [if_pos hd, h]
  simp only
  rw [if_neg (fun h0 => hV h0.1)]
  simp only
  rw [if_neg hV]
theorem toR_zero {g : Bool} {V : Nat} {e : Int} {dir : Int} {d : Dy} (hd : 0 ≤ dir ∧ dir ≤ 3) (h : mk g V e = some d) (hV : d.V = 0) : toR g V e false dir = (0, 0, 0) := by
  unfold toR chk
  rw [if_pos hd, h]
  simp only
  rw [if_neg (fun h0 => by cases h0.2)]
  simp only
  rw [if_pos hV]
/-- No error: the dyad can be bare. -/
theorem toR_ok {g : Bool} {V : Nat} {e : Int} {more : Bool} {dir : Int} {x f : Nat} (h : toR g V e more dir = (x, f, 0)) :
    ∃ d, mk g V e = some d ∧ (0 ≤ dir ∧ dir ≤ 3) ∧ ((d.V = 0 ∧ x = 0 ∧ f = 0) ∨ (d.V ≠ 0 ∧ rndO d.neg d.V d.e more dir = (x, f))) := by
  unfold toR at h
  cases hc : chk (mk g V e) more dir with
  | none => rw [hc] at h; simp at h
  | some d =>
    rw [hc] at h
    simp only at h
    unfold chk at hc
    split at hc
    · rename_i hd
      split at hc
      · cases hc
      · rename_i d' hd'
        split at hc
        · cases hc
        · obtain rfl := Option.some.inj hc
          refine ⟨d', hd', hd, ?_⟩
          by_cases h0 : d'.V = 0
          · rw [if_pos h0] at h
            obtain ⟨h1, h2⟩ := Prod.mk.inj h
            exact Or.inl ⟨h0, h1.symm, (Prod.mk.inj h2).1.symm⟩
          · rw [if_neg h0] at h
            obtain ⟨h1, h2⟩ := Prod.mk.inj h
            exact Or.inr ⟨h0, Prod.ext h1 (Prod.mk.inj h2).1⟩
    · cases hc

/-- The size of what comes out. -/
noncomputable def magS (g : Bool) (S : Nat) (dir : Int) (X : Nat) : Nat := if X = 9218868437227405312 then overM g dir else upX g dir X (hS S X) (bS S X || false)
theorem upX_inf {g : Bool} {dir : Int} {X : Nat} {h b : Bool} (hX : X ≠ 9218868437227405312) (hu : upX g dir X h b = 9218868437227405312) : overM g dir = 9218868437227405312 := by
  unfold upX at hu
  unfold overM
  cases ha : awy g dir (decide (X % 2 = 1)) h b with
  | false => rw [ha] at hu; exact absurd hu hX
  | true => rw [awy_all ha, if_pos rfl]
theorem rndS_mag (g : Bool) (S : Nat) (dir : Int) (X : Nat) : (rndS g S false dir X).1 = sgn g (magS g S dir X) := by
  unfold rndS magS
  by_cases h : X = 9218868437227405312
  · rw [if_pos h, if_pos h]; rfl
  · rw [if_neg h, if_neg h]
    unfold rfin
    by_cases hu : upX g dir X (hS S X) (bS S X || false) = 9218868437227405312
    · rw [if_pos hu, hu]
      show sgn g (overM g dir) = _
      rw [upX_inf h hu]
    · rw [if_neg hu]
theorem awy_none {g : Bool} {dir : Int} {o h b : Bool} (h0 : awy g dir true true true = false) : awy g dir o h b = false := by
  cases ha : awy g dir o h b with
  | false => rfl
  | true => rw [awy_all ha] at h0; cases h0
theorem overM_le (g : Bool) (dir : Int) : overM g dir ≤ 9218868437227405312 := by unfold overM; split <;> omega
theorem upX_le {g : Bool} {dir : Int} {X : Nat} {h b : Bool} : X ≤ upX g dir X h b ∧ upX g dir X h b ≤ X + 1 := by
  unfold upX; cases awy g dir (decide (X % 2 = 1)) h b <;> simp
theorem magS_le {g : Bool} {S : Nat} {dir : Int} {X : Nat} (hX : X ≤ 9218868437227405312) : magS g S dir X ≤ 9218868437227405312 := by
  unfold magS
  split
  · exact overM_le g dir
  · have := (upX_le (g := g) (dir := dir) (X := X) (h := hS S X) (b := (bS S X || false))).2
    omega
theorem magS_mono {g : Bool} {S T : Nat} {dir : Int} {X Y : Nat} (hX : IsLow S X) (hY : IsLow T Y) (h : S ≤ T) : magS g S dir X ≤ magS g T dir Y := by
  have hXY := hX.mono hY h
  have hYi := hY.1
  by_cases hYI : Y = 9218868437227405312
  · have e2 : magS g T dir Y = overM g dir := by unfold magS; rw [if_pos hYI]
    rw [e2]
    by_cases hXI : X = 9218868437227405312
    · have e1 : magS g S dir X = overM g dir := by unfold magS; rw [if_pos hXI]
      rw [e1]; exact Nat.le_refl _
    · cases ha : awy g dir true true true with
      | true =>
        have e3 : overM g dir = 9218868437227405312 := by unfold overM; rw [ha, if_pos rfl]
        rw [e3]; exact magS_le hX.1
      | false =>
        have e3 : overM g dir = 9218868437227405311 := by unfold overM; rw [ha]; rfl
        have e1 : magS g S dir X = X := by unfold magS upX; rw [if_neg hXI, awy_none ha]; rfl
        rw [e3, e1]; omega
  · have hXI : X ≠ 9218868437227405312 := by omega
    unfold magS
    rw [if_neg hYI, if_neg hXI]
    rcases Nat.lt_or_ge X Y with hlt | hge
    · have h1 := (upX_le (g := g) (dir := dir) (X := X) (h := hS S X) (b := (bS S X || false))).2
      have h2 := (upX_le (g := g) (dir := dir) (X := Y) (h := hS T Y) (b := (bS T Y || false))).1
      omega
    · obtain rfl : X = Y := by omega
      have l1 := hX.2.1
      have l2 := hX.2.2 (by omega)
      have hlt := vX_lt (X := X) (by omega)
      unfold upX
      apply Nat.add_le_add_left
      cases ha : awy g dir (decide (X % 2 = 1)) (hS S X) (bS S X || false) with
      | false => exact Nat.zero_le _
      | true =>
        have key : awy g dir (decide (X % 2 = 1)) (hS T X) (bS T X || false) = true := by
          rw [Bool.or_false] at ha ⊢
          generalize decide (X % 2 = 1) = od at ha ⊢
          have hb : hS S X = true → hS T X = true := fun h1 => by
            have := of_decide_eq_true h1
            exact decide_eq_true (by omega)
          have hbb : hS S X = true → bS S X = true → bS T X = true := fun h1 h2 => by
            have k1 := of_decide_eq_true h1
            have k2 := of_decide_eq_true h2
            exact decide_eq_true (by omega)
          have hor : (hS S X || bS S X) = true → (hS T X || bS T X) = true := fun h1 => by
            rcases Bool.or_eq_true _ _ ▸ h1 with h2 | h2
            · rw [hb h2]; rfl
            · have k2 := of_decide_eq_true h2
              by_cases k3 : vX X + vX (X + 1) ≤ 2 * T
              · rw [show hS T X = true from decide_eq_true k3]; rfl
              · rw [show bS T X = true from decide_eq_true (by omega)]; simp
          unfold awy at ha ⊢
          split
          · rename_i h0
            rw [if_pos h0] at ha
            rw [Bool.and_eq_true] at ha ⊢
            refine ⟨hb ha.1, ?_⟩
            rw [Bool.or_eq_true] at ha ⊢
            rcases ha.2 with h2 | h2
            · exact Or.inl (hbb ha.1 h2)
            · exact Or.inr h2
          · rename_i h0
            rw [if_neg h0] at ha
            split
            · rename_i h1
              rw [if_pos h1] at ha
              rw [Bool.and_eq_true] at ha ⊢
              exact ⟨ha.1, hor ha.2⟩
            · rename_i h1
              rw [if_neg h1] at ha
              split
              · rename_i h2
                rw [if_pos h2] at ha
                rw [Bool.and_eq_true] at ha ⊢
                exact ⟨ha.1, hor ha.2⟩
              · rename_i h2
                rw [if_neg h2] at ha
                exact ha
        rw [key]
        exact Nat.le_refl _

/-- Bits as numbers in their order. -/
def rv (x : Nat) : Int := if fng x then -((x % 9223372036854775808 : Nat) : Int) else (x : Int)
theorem rv_sgn {g : Bool} {Y : Nat} (h : Y ≤ 9218868437227405312) : rv (sgn g Y) = if g then -(Y : Int) else (Y : Int) := by
  cases g with
  | false =>
    have e : sgn false Y = Y := by unfold sgn; simp
    rw [e]
    unfold rv fng
    rw [decide_eq_false (by omega)]
    rfl
  | true =>
    have e : sgn true Y = 9223372036854775808 + Y := rfl
    rw [e]
    unfold rv fng
    rw [decide_eq_true (by omega)]
    simp only [↓reduceIte]
    omega
theorem rnd_rv {d : Dy} (hf : Fine d) (hV : d.V ≠ 0) (dir : Int) : rv (rndO d.neg d.V d.e false dir).1 = if d.neg then -((magS d.neg (sz d.V d.e) dir (lowX d.V d.e) : Nat) : Int) else ((magS d.neg (sz d.V d.e) dir (lowX d.V d.e) : Nat) : Int) := by
  have hl := low_is hV hf.1 hf.2.1
  rw [rndO_S d.neg false dir hV hf.1 hf.2.1 hl, rndS_mag, rv_sgn (magS_le hl.1)]
theorem rv_zero : rv 0 = 0 := by decide
/-- Rounding keeps order. -/
theorem r_mono {g k : Bool} {V U : Nat} {e e' dir : Int} {x f y f' : Nat} (h1 : toR g V e false dir = (x, f, 0)) (h2 : toR k U e' false dir = (y, f', 0)) (h : dw g V e ≤ dw k U e') : rv x ≤ rv y := by
  obtain ⟨d, m1, hd, c1⟩ := toR_ok h1
  obtain ⟨d', m2, _, c2⟩ := toR_ok h2
  obtain ⟨f1, w1, _, _⟩ := mk_fine m1
  obtain ⟨f2, w2, _, _⟩ := mk_fine m2
  rw [← w1, ← w2] at h
  have r1 : (d.V = 0 ∧ rv x = 0) ∨ (d.V ≠ 0 ∧ rv x = if d.neg then -((magS d.neg (sz d.V d.e) dir (lowX d.V d.e) : Nat) : Int) else ((magS d.neg (sz d.V d.e) dir (lowX d.V d.e) : Nat) : Int)) := by
    rcases c1 with ⟨a, b, _⟩ | ⟨a, b⟩
    · exact Or.inl ⟨a, by rw [b]; exact rv_zero⟩
    · have := rnd_rv f1 a dir
      rw [b] at this
      exact Or.inr ⟨a, this⟩
  have r2 : (d'.V = 0 ∧ rv y = 0) ∨ (d'.V ≠ 0 ∧ rv y = if d'.neg then -((magS d'.neg (sz d'.V d'.e) dir (lowX d'.V d'.e) : Nat) : Int) else ((magS d'.neg (sz d'.V d'.e) dir (lowX d'.V d'.e) : Nat) : Int)) := by
    rcases c2 with ⟨a, b, _⟩ | ⟨a, b⟩
    · exact Or.inl ⟨a, by rw [b]; exact rv_zero⟩
    · have := rnd_rv f2 a dir
      rw [b] at this
      exact Or.inr ⟨a, this⟩
  obtain ⟨dg, dV, dE⟩ := d
  obtain ⟨kg, kV, kE⟩ := d'
  simp only at *
  unfold dw at h
  have p1 : dV ≠ 0 → 0 < sz dV dE := fun h => sz_pos dE h
  have p2 : kV ≠ 0 → 0 < sz kV kE := fun h => sz_pos kE h
  have z1 : dV = 0 → sz dV dE = 0 := fun h => by rw [h, sz_zero]
  have z2 : kV = 0 → sz kV kE = 0 := fun h => by rw [h, sz_zero]
  have L1 : dV ≠ 0 → IsLow (sz dV dE) (lowX dV dE) := fun h => low_is h f1.1 f1.2.1
  have L2 : kV ≠ 0 → IsLow (sz kV kE) (lowX kV kE) := fun h => low_is h f2.1 f2.2.1
  have M1 : ∀ b : Bool, dV ≠ 0 → kV ≠ 0 → sz dV dE ≤ sz kV kE → magS b (sz dV dE) dir (lowX dV dE) ≤ magS b (sz kV kE) dir (lowX kV kE) := fun b a c l => magS_mono (L1 a) (L2 c) l
  have M2 : ∀ b : Bool, dV ≠ 0 → kV ≠ 0 → sz kV kE ≤ sz dV dE → magS b (sz kV kE) dir (lowX kV kE) ≤ magS b (sz dV dE) dir (lowX dV dE) := fun b a c l => magS_mono (L2 c) (L1 a) l
  generalize sz dV dE = S1 at *
  generalize sz kV kE = S2 at *
  clear L1 L2 c1 c2 m1 m2 w1 w2 f1 f2 h1 h2
  rcases r1 with ⟨a1, b1⟩ | ⟨a1, b1⟩ <;> rcases r2 with ⟨a2, b2⟩ | ⟨a2, b2⟩
  · omega
  · have := p2 a2
    have := z1 a1
    rw [b1, b2]
    cases kg <;> cases dg <;> simp only [Bool.false_eq_true, ↓reduceIte] at h ⊢ <;> omega
  · have := p1 a1
    have := z2 a2
    rw [b1, b2]
    cases kg <;> cases dg <;> simp only [Bool.false_eq_true, ↓reduceIte] at h ⊢ <;> omega
  · have := p1 a1
    have := p2 a2
    rw [b1, b2]
    cases kg <;> cases dg <;> simp only [Bool.false_eq_true, ↓reduceIte] at h ⊢
    · have := M1 false a1 a2 (by omega); omega
    · omega
    · omega
    · have := M2 true a1 a2 (by omega); omega

/-- Up and Down are each other's mirror. -/
def mir (dir : Int) : Int := if dir = 2 then 3 else if dir = 3 then 2 else dir
theorem mir_bd {dir : Int} (h : 0 ≤ dir ∧ dir ≤ 3) : 0 ≤ mir dir ∧ mir dir ≤ 3 := by unfold mir; split; decide; split; decide; exact h
theorem awy_mir (g : Bool) (dir : Int) (o h b : Bool) : awy (!g) (mir dir) o h b = awy g dir o h b := by
  unfold awy mir
  by_cases h2 : dir = 2
  · subst h2; cases g <;> rfl
  · by_cases h3 : dir = 3
    · subst h3; cases g <;> rfl
    · rw [if_neg h2, if_neg h3, if_neg h2, if_neg h3]
      split <;> rfl
theorem rnd_mir (g : Bool) {V : Nat} {e : Int} (more : Bool) (dir : Int) (hV : V ≠ 0) (h1 : -1073741824 ≤ e) (h2 : e ≤ 1073741824) : ∃ Y F, Y ≤ 9218868437227405312 ∧ rndO g V e more dir = (sgn g Y, F) ∧ rndO (!g) V e more (mir dir) = (sgn (!g) Y, F) := by
  have ho : overM (!g) (mir dir) = overM g dir := by unfold overM; rw [awy_mir]
  have hu : ∀ X h b, upX (!g) (mir dir) X h b = upX g dir X h b := fun X h b => by unfold upX; rw [awy_mir]
  unfold rndO
  by_cases ht : 1023 < rtop V e
  · rw [if_pos ht, if_pos ht]
    exact ⟨overM g dir, 5, overM_le g dir, rfl, by unfold overO; rw [ho]⟩
  · have hX := (rnd_low hV h1 h2 (by omega)).1
    rw [if_neg ht, if_neg ht]
    unfold rfin
    rw [hu]
    have hle := (upX_le (g := g) (dir := dir) (X := rX V e) (h := rH V e (ru V e)) (b := (rB V e (ru V e) || more))).2
    generalize upX g dir (rX V e) (rH V e (ru V e)) (rB V e (ru V e) || more) = Y at *
    by_cases hY : Y = 9218868437227405312
    · rw [if_pos hY, if_pos hY]
      exact ⟨overM g dir, 5, overM_le g dir, rfl, by unfold overO; rw [ho]⟩
    · rw [if_neg hY, if_neg hY]
      exact ⟨Y, _, by omega, rfl, rfl⟩
theorem xor_sign (Y : Nat) (hY : Y < 9223372036854775808) : (9223372036854775808 + Y) ^^^ Y = 9223372036854775808 := by
  have h : 9223372036854775808 + Y = 9223372036854775808 ^^^ Y := by
    rw [show 9223372036854775808 + Y = 9223372036854775808 ||| Y from Nat.shiftLeft_add_eq_or_of_lt (i := 63) (b := Y) (show Y < 2 ^ 63 from hY) 1]
    apply Nat.eq_of_testBit_eq
    intro i
    rw [Nat.testBit_or, Nat.testBit_xor]
    by_cases hi : i = 63
    · subst hi
      rw [Nat.testBit_lt_two_pow (x := Y) (i := 63) hY]
      simp
    · have : Nat.testBit 9223372036854775808 i = false := by
        rw [show (9223372036854775808 : Nat) = 2 ^ 63 from by decide, Nat.testBit_two_pow]
        exact decide_eq_false (by omega)
      rw [this]; simp
  rw [h, Nat.xor_assoc, Nat.xor_self, Nat.xor_zero]
/-- The mirrored number is rounded to the mirrored bits. -/
theorem r_mirror {g : Bool} {V : Nat} {e dir : Int} {x f : Nat} {b : Dy} (h : toR g V e false dir = (x, f, 0)) (hb : mk (!g) V e = some b) :
    ∃ z, toR b.neg b.V b.e false (mir dir) = (z, f, 0) ∧ x < 18446744073709551616 ∧ z < 18446744073709551616 ∧ ((x ≠ 0 ∧ x ^^^ z = 9223372036854775808) ∨ (x = 0 ∧ (z = 0 ∨ z = 9223372036854775808))) := by
  obtain ⟨d, hd, hdir, c⟩ := toR_ok h
  have hb' := mk_self hb
  have hm := mir_bd hdir
  have hfd := mk_fine hd
  have hfb := mk_fine hb
  by_cases hV : V = 0
  · have z1 : d.V = 0 := hfd.2.2.1.2 hV
    have z2 : b.V = 0 := hfb.2.2.1.2 hV
    rcases c with ⟨_, rfl, rfl⟩ | ⟨c1, _⟩
    · exact ⟨0, toR_zero hm hb' z2, by decide, by decide, Or.inr ⟨rfl, Or.inl rfl⟩⟩
    · exact absurd z1 c1
  · obtain ⟨d1, d2, d3⟩ := mk_pos hd hV
    obtain ⟨b1, b2, b3⟩ := mk_pos hb hV
    have hdb : d.V = b.V ∧ d.e = b.e := by
      have e1 := mk_is hd
      have e2 := mk_is hb
      rw [nO_pos _ _ hV] at e1 e2
      rw [← e1, ← e2]
      exact ⟨rfl, rfl⟩
    rcases c with ⟨c1, _, _⟩ | ⟨_, c2⟩
    · exact absurd c1 d2
    · obtain ⟨Y, F, hY, r1, r2⟩ := rnd_mir g (V := b.V) (e := b.e) false dir b2 hfb.1.1 hfb.1.2.1
      rw [d1, hdb.1, hdb.2, r1] at c2
      obtain ⟨rfl, rfl⟩ := Prod.mk.inj c2
      rw [← b1] at r2
      refine ⟨sgn b.neg Y, ?_, ?_, ?_, ?_⟩
      · rw [toR_some hm hb' b2, r2]
      · unfold sgn; split <;> omega
      · unfold sgn; split <;> omega
      · rw [b1]
        cases g with
        | false =>
          have e1 : sgn false Y = Y := by unfold sgn; simp
          have e2 : sgn (!false) Y = 9223372036854775808 + Y := rfl
          rw [e1, e2]
          by_cases h0 : Y = 0
          · exact Or.inr ⟨h0, Or.inr (by omega)⟩
          · exact Or.inl ⟨h0, by rw [Nat.xor_comm]; exact xor_sign Y (by omega)⟩
        | true =>
          have e1 : sgn (!true) Y = Y := by unfold sgn; simp
          have e2 : sgn true Y = 9223372036854775808 + Y := rfl
          rw [e1, e2]
          exact Or.inl ⟨by omega, xor_sign Y (by omega)⟩

/-- What bits are worth stays. -/
theorem fO_size {b : Nat} (hf : Fnt b) : sz (fO b).V (fO b).e = vX (b % 9223372036854775808) := by
  have h1 := sz_told (mk_fin hf)
  have h2 : sz (fO b).V (fO b).e = sz (fm b) (fe b) := by
    have : ((sz (fO b).V (fO b).e : Nat) : Int) = (sz (fm b) (fe b) : Int) := h1
    omega
  rw [h2]
  obtain ⟨p1, p2, p3, p4⟩ := f_parts b
  have h3 := vX_parts (L := fE b) (U := fm b) (X := b % 9223372036854775808) p1 (by omega) p3 (p4 hf)
  rw [h3, sz]
  congr 2
  have h4 := sh_held (fe b)
  rw [fe_held hf] at h4
  have h5 : fe b = (fE b : Int) - 1074 := rfl
  have h6 := kb_eq
  omega
theorem r_fix {b : Nat} {dir : Int} (hb : b < 18446744073709551616) (hf : Fnt b) (hd : 0 ≤ dir ∧ dir ≤ 3) :
    ∃ c, toR (fO b).neg (fO b).V (fO b).e false dir = (c, 0, 0) ∧ c < 18446744073709551616 ∧ (c = b ∨ (b = 9223372036854775808 ∧ c = 0)) := by
  have hmk := mk_self (mk_fin hf)
  have hfin := (mk_fine hmk).1
  by_cases h0 : fm b = 0
  · rw [fO_zero h0] at hmk ⊢
    refine ⟨0, toR_zero hd hmk rfl, by decide, ?_⟩
    have hs := f_sign hb
    have hp := (f_parts b).1
    have hp3 := (f_parts b).2.2.1
    rw [h0] at hp hp3
    have : fE b = 0 := by
      rcases Nat.eq_zero_or_pos (fE b) with h | h
      · exact h
      · have := hp3 h; omega
    rw [this] at hp
    by_cases hn : fng b = true
    · rw [hn, if_pos rfl] at hs
      exact Or.inr ⟨by omega, rfl⟩
    · rw [if_neg hn] at hs
      exact Or.inl (by omega)
  · obtain ⟨k1, k2, _⟩ := mk_pos (mk_fin hf) h0
    have hX : b % 9223372036854775808 < 9218868437227405312 := by
      have h9 : fex b ≠ 2047 := hf
      have := fex_lt b
      unfold fex at *
      omega
    have hlt := vX_lt hX
    have hL : IsLow (sz (fO b).V (fO b).e) (b % 9223372036854775808) := by
      rw [fO_size hf]
      exact ⟨by omega, Nat.le_refl _, fun _ => hlt⟩
    have hr := rndO_S (fO b).neg false dir k2 hfin.1 hfin.2.1 hL
    rw [fO_size hf] at hr
    have hh : hS (vX (b % 9223372036854775808)) (b % 9223372036854775808) = false := decide_eq_false (by omega)
    have hbb : bS (vX (b % 9223372036854775808)) (b % 9223372036854775808) = false := decide_eq_false (by omega)
    have hr2 : rndO (fO b).neg (fO b).V (fO b).e false dir = (b, 0) := by
      rw [hr, rndS, if_neg (by omega), hh, hbb, rfin, upX]
      show (if b % 9223372036854775808 + (awy (fO b).neg dir _ false false).toNat = 9218868437227405312 then _ else (sgn (fO b).neg (b % 9223372036854775808 + (awy (fO b).neg dir _ false false).toNat), fl false false _)) = _
      rw [awy_exact]
      show (if b % 9223372036854775808 + 0 = 9218868437227405312 then _ else (sgn (fO b).neg (b % 9223372036854775808 + 0), 0)) = _
      rw [if_neg (by omega), Nat.add_zero, k1]
      have hs := f_sign hb
      unfold sgn
      rw [← hs]
    exact ⟨b, by rw [toR_some hd hmk k2, hr2], hb, Or.inl rfl⟩
end Go.Proofs.YtgacafdkhailmaaDoor

/- Neighbours, middles and breakpoints of bits: numbers alone. -/
namespace Go.Proofs.YtgacafdkhailmaaDoor
open Go.RowKit

/-- The other sign. -/
def flp (b : Nat) : Nat := if fng b then b - 9223372036854775808 else b + 9223372036854775808
theorem flp_facts {b : Nat} (hb : b < 18446744073709551616) : flp b < 18446744073709551616 ∧ flp b % 9223372036854775808 = b % 9223372036854775808 ∧ fng (flp b) = !fng b ∧ flp (flp b) = b := by
  by_cases h : 9223372036854775808 ≤ b
  · have e1 : fng b = true := decide_eq_true h
    have e2 : flp b = b - 9223372036854775808 := by rw [flp, e1, if_pos rfl]
    have e3 : fng (flp b) = false := decide_eq_false (by omega)
    exact ⟨by omega, by omega, by rw [e3, e1]; rfl, by rw [flp, e3, if_neg (by decide)]; omega⟩
  · have e1 : fng b = false := decide_eq_false h
    have e2 : flp b = b + 9223372036854775808 := by rw [flp, e1, if_neg (by decide)]
    have e3 : fng (flp b) = true := decide_eq_true (by omega)
    exact ⟨by omega, by omega, by rw [e3, e1]; rfl, by rw [flp, e3, if_pos rfl]; omega⟩
theorem size_same {a b : Nat} (h : a % 9223372036854775808 = b % 9223372036854775808) : fm a = fm b ∧ fE a = fE b ∧ fe a = fe b ∧ (Fnt a ↔ Fnt b) ∧ fkd a = fkd b := by
  have e1 : fex a = fex b := by unfold fex; omega
  have e2 : ffr a = ffr b := by unfold ffr; omega
  unfold fe fE fm Fnt fkd
  rw [e1, e2]
  exact ⟨rfl, rfl, rfl, Iff.rfl, rfl⟩
theorem xor_two (b : Nat) (h : b < 9223372036854775808) : b ^^^ 9223372036854775808 = b + 9223372036854775808 := by
  have h1 : b ^^^ 9223372036854775808 = b ||| 9223372036854775808 := by
    apply Nat.eq_of_testBit_eq
    intro i
    rw [Nat.testBit_xor, Nat.testBit_or]
    by_cases hi : i = 63
    · subst hi
      rw [Nat.testBit_lt_two_pow (show b < 2 ^ 63 from h)]
      rfl
    · have : (9223372036854775808 : Nat).testBit i = false := by
        rw [show (9223372036854775808 : Nat) = 2 ^ 63 from by decide, Nat.testBit_two_pow]
        exact decide_eq_false (fun h => hi h.symm)
      rw [this]; simp
  rw [h1]
  have := Nat.shiftLeft_add_eq_or_of_lt (i := 63) (b := b) (show b < 2 ^ 63 from h) 1
  rw [Nat.or_comm, Nat.add_comm]
  exact this.symm
theorem xor_flp (b : Nat) (hb : b < 18446744073709551616) : bits .xor .u64 (b : Int) 9223372036854775808 = (flp b : Int) := by
  have h := bits_xor_u64_nat b 9223372036854775808 hb (by decide)
  have h2 : b ^^^ 9223372036854775808 = flp b := by
    by_cases hg : 9223372036854775808 ≤ b
    · have e1 : fng b = true := decide_eq_true hg
      rw [flp, e1, if_pos rfl]
      have h3 := xor_two (b - 9223372036854775808) (by omega)
      rw [Nat.sub_add_cancel hg] at h3
      obtain ⟨a, rfl⟩ : ∃ a, b = a + 9223372036854775808 := ⟨b - 9223372036854775808, by omega⟩
      rw [Nat.add_sub_cancel] at h3 ⊢
      rw [← h3, Nat.xor_assoc, Nat.xor_self, Nat.xor_zero]
    · have e1 : fng b = false := decide_eq_false hg
      rw [flp, e1, if_neg (by decide)]
      exact xor_two b (by omega)
  rw [h2] at h
  exact h
theorem nsign_off (x : Nat) (hx : x < 18446744073709551616) : bits .andNot .u64 (x : Int) 9223372036854775808 = ((x % 9223372036854775808 : Nat) : Int) := by
  show IntKind.u64.wrap ((BitVec.ofInt 64 (x : Int) &&& ~~~BitVec.ofInt 64 ((9223372036854775808 : Nat) : Int)).toNat : Int) = _
  have h1 : (BitVec.ofInt 64 (x : Int)).toNat = x := by
    rw [BitVec.ofInt_natCast, BitVec.toNat_ofNat]; exact Nat.mod_eq_of_lt (by omega)
  have h2 : (BitVec.ofInt 64 ((9223372036854775808 : Nat) : Int)).toNat = 9223372036854775808 := by
    rw [BitVec.ofInt_natCast, BitVec.toNat_ofNat]
  rw [BitVec.toNat_and, BitVec.toNat_not, h1, h2, show 2 ^ 64 - 1 - 9223372036854775808 = 2 ^ 63 - 1 from by decide, Nat.and_two_pow_sub_one_eq_mod, IntKind.wrap_u64]
  omega

theorem fin_lt {b : Nat} (hf : Fnt b) : b % 9223372036854775808 < 9218868437227405312 := by
  have h1 : fex b ≠ 2047 := hf
  unfold fex at h1
  omega
theorem fin_of_lt {b : Nat} (h : b % 9223372036854775808 < 9218868437227405312) : Fnt b := by
  show fex b ≠ 2047
  unfold fex
  omega
theorem fm_zero_iff (b : Nat) : fm b = 0 ↔ b % 9223372036854775808 = 0 := by
  obtain ⟨p1, p2, p3, _⟩ := f_parts b
  constructor
  · intro h
    rcases Nat.eq_zero_or_pos (fE b) with h9 | h9
    · rw [h9, h] at p1; omega
    · have := p3 h9; omega
  · intro h; rw [h] at p1; omega

/-- What is odd and near comes out as it is. -/
theorem mk_odd {g : Bool} {V m : Nat} {e : Int} (h : V = 2 * m + 1) (h1 : -1073741824 ≤ e) (h2 : e ≤ 1073741824) : mk g V e = some ⟨g, V, e⟩ := by
  have hl : low V = 0 := low_eq (l := 0) (m := m) (by rw [h]; omega)
  unfold mk toldD
  rw [hl, Nat.pow_zero, Nat.div_one, held_id h1 h2, if_neg (by omega), show e + ((0 : Nat) : Int) = e by omega, if_neg (by omega)]
theorem odd_uniq {V U m k : Nat} {e f : Int} (hV : V = 2 * m + 1) (hU : U = 2 * k + 1) (h1 : -1073741824 ≤ e) (h2 : e ≤ 1073741824) (h3 : -1073741824 ≤ f) (h4 : f ≤ 1073741824) (h : sz V e = sz U f) : V = U ∧ e = f := by
  unfold sz at h
  have a1 : low (V * 2 ^ sh e) = sh e := low_eq (m := m) (by rw [hV, Nat.mul_comm])
  have a2 : low (U * 2 ^ sh f) = sh f := low_eq (m := k) (by rw [hU, Nat.mul_comm])
  have a3 : sh e = sh f := by rw [← a1, h, a2]
  rw [a3] at h
  have b1 := sh_eq h1 h2
  have b2 := sh_eq h3 h4
  exact ⟨Nat.eq_of_mul_eq_mul_right (Nat.two_pow_pos _) h, by omega⟩

/-- The middle of some bits' size and the next one. -/
def midD (b : Nat) : Dy := ⟨fng b, 2 * fm b + 1, fe b - 1⟩
theorem mid_mk {b : Nat} (hf : Fnt b) : mk (fng b) (2 * fm b + 1) (fe b - 1) = some (midD b) := by
  have := fe_bd hf
  exact mk_odd rfl (by omega) (by omega)
theorem half_mk (g : Bool) {b : Nat} (hf : Fnt b) : mk g 1 (fe b - 1) = some ⟨g, 1, fe b - 1⟩ := by
  have := fe_bd hf
  exact mk_odd (m := 0) rfl (by omega) (by omega)
theorem mid_add {b : Nat} (hf : Fnt b) : addO (some (fO b)) (some ⟨fng b, 1, fe b - 1⟩) = some (midD b) := by
  show addB (fO b) ⟨fng b, 1, fe b - 1⟩ = some (midD b)
  by_cases h0 : fm b = 0
  · rw [fO_zero h0]
    unfold addB midD
    rw [if_pos rfl, h0]
  · obtain ⟨k1, k2, k3⟩ := fO_pos hf h0
    have hbd := fe_bd hf
    have hm := (f_parts b).2.1
    have hp := odd_part (fm b)
    have hV0 : (fO b).V ≠ 0 := by rw [k2]; exact fun h => h0 (odd_part_zero.1 h)
    have hl : low (fm b) < 53 := by
      refine (low_lt_iff (Nat.pos_of_ne_zero h0)).2 ?_
      show fm b % 9007199254740992 ≠ 0
      omega
    have hB : blen (fO b).V ≤ 53 := by
      refine blen_le_iff.2 ?_
      rw [k2]
      exact Nat.lt_of_le_of_lt (Nat.div_le_self _ _) hm
    have hx : (fO b).V * 2 ^ ((fO b).e - (fe b - 1)).toNat = 2 * fm b := by
      rw [k2, k3, show (fe b + (low (fm b) : Int) - (fe b - 1)).toNat = low (fm b) + 1 by omega, Nat.pow_succ, ← Nat.mul_assoc, hp]
      omega
    have h := addB_near (a := fO b) (b := ⟨fng b, 1, fe b - 1⟩) (lo := fe b - 1) (x := 2 * fm b) (y := 1) hV0 (by show (1 : Nat) ≠ 0; decide) (by rw [k3]; show min _ (fe b - 1) = _; omega) hx (by show 1 * 2 ^ (fe b - 1 - (fe b - 1)).toNat = 1; rw [Int.sub_self]; rfl) (by
      show max ((blen (fO b).V : Int) - 1 + (fO b).e) ((blen 1 : Int) - 1 + (fe b - 1)) - (fe b - 1) ≤ 65535
      rw [k3, show blen 1 = 1 from by decide]
      omega)
    rw [h, if_pos k1, k1]
    exact mid_mk hf
theorem mid_size {b : Nat} (hf : Fnt b) : 2 * sz (2 * fm b + 1) (fe b - 1) = vX (b % 9223372036854775808) + vX (b % 9223372036854775808 + 1) := by
  have hl := fin_lt hf
  have hbd := fe_bd hf
  obtain ⟨s1, s2, s3, _, _⟩ := size_same (a := b % 9223372036854775808) (b := b) (Nat.mod_mod _ _)
  rw [vX_next hl, vX, s1, s2, sz]
  have h1 := sh_eq (e := fe b - 1) (by omega) (by omega)
  have h2 : fe b = (fE b : Int) - 1074 := rfl
  have h3 := kb_eq
  have h4 : fE b + kb = sh (fe b - 1) + 1 := by omega
  rw [h4, Nat.pow_succ, Nat.add_mul, Nat.one_mul]
  generalize fm b = M
  generalize 2 ^ sh (fe b - 1) = P
  rw [← Nat.mul_assoc, Nat.mul_assoc 2 M P]
  omega
theorem mid_low {b : Nat} (hf : Fnt b) : IsLow (sz (2 * fm b + 1) (fe b - 1)) (b % 9223372036854775808) := by
  have hl := fin_lt hf
  have h1 := mid_size hf
  have h2 := vX_lt hl
  exact ⟨by omega, by omega, fun _ => by omega⟩
/-- The unit at a number. -/
theorem unit_fin {b : Nat} (hf : Fnt b) (h0 : fm b ≠ 0) : max ((blen (fO b).V : Int) - 1 + held (fO b).e - 52) (-1074) = fe b := by
  obtain ⟨k1, k2, k3⟩ := fO_pos hf h0
  have hbd := fe_bd hf
  have hp := odd_part (fm b)
  have hV0 : (fO b).V ≠ 0 := by rw [k2]; exact fun h => h0 (odd_part_zero.1 h)
  obtain ⟨_, p2, p3, p4⟩ := f_parts b
  have hl : low (fm b) < 53 := by
    refine (low_lt_iff (Nat.pos_of_ne_zero h0)).2 ?_
    show fm b % 9007199254740992 ≠ 0
    omega
  have hB : blen (fm b) = blen (fO b).V + low (fm b) := by
    rw [← blen_shl hV0, k2, hp]
  have hB1 : blen (fm b) ≤ 53 := blen_le_iff.2 p2
  have hB2 : 0 < fE b → blen (fm b) = 53 := fun h => blen_eq (k := 53) (p3 h) p2 (by decide)
  have hfe : fe b = (fE b : Int) - 1074 := rfl
  rw [k3, held_id (by omega) (by omega)]
  rcases Nat.eq_zero_or_pos (fE b) with h | h
  · omega
  · have := hB2 h; omega
theorem unit_zero {b : Nat} (h0 : fm b = 0) : fe b = -1074 := by
  have h1 := (f_parts b).2.2.1
  have hfe : fe b = (fE b : Int) - 1074 := rfl
  rcases Nat.eq_zero_or_pos (fE b) with h | h
  · omega
  · have := h1 h; omega

theorem nsz_inf {e : Int} (h : e = 1024) : sz 1 e = vX 9218868437227405312 := by
  have h1 := sh_eq (e := e) (by omega) (by omega)
  have h2 := kb_eq
  rw [vX_inf, sz, Nat.one_mul]
  congr 1
  omega
/-- What Break tells. -/
def brkO : Option Dy → Bool
  | none => false
  | some d => if d.V = 0 then true else if 1024 ≤ rtop d.V d.e then decide (rtop d.V d.e = 1024 ∧ d.e = 1024) else decide (ru d.V d.e - 1 ≤ d.e)
theorem rB_odd {V m : Nat} {e : Int} (u : Int) (h : V = 2 * m + 1) : rB V e u = false ↔ u - 1 ≤ e := by
  unfold rB
  by_cases hu : u ≤ e
  · rw [if_pos hu]
    exact ⟨fun _ => by omega, fun _ => rfl⟩
  · rw [if_neg hu, decide_eq_false_iff_not, Decidable.not_not]
    obtain ⟨k, hk⟩ : ∃ k, (u - e - 1).toNat = k := ⟨_, rfl⟩
    rw [hk]
    cases k with
    | zero => exact ⟨fun _ => by omega, fun _ => by rw [Nat.pow_zero, Nat.mod_one]⟩
    | succ j =>
      constructor
      · intro h0
        have h1 : 2 ∣ V := Nat.dvd_trans ⟨2 ^ j, by rw [Nat.pow_succ, Nat.mul_comm]⟩ (Nat.dvd_of_mod_eq_zero h0)
        omega
      · intro h0; omega
theorem brk_low {g : Bool} {V m : Nat} {e : Int} {X : Nat} (hV : V = 2 * m + 1) (h1 : -1073741824 ≤ e) (h2 : e ≤ 1073741824) (hX : IsLow (sz V e) X) :
    brkO (some ⟨g, V, e⟩) = true ↔ (X = 9218868437227405312 ∧ sz V e = vX 9218868437227405312) ∨ (X < 9218868437227405312 ∧ (sz V e = vX X ∨ 2 * sz V e = vX X + vX (X + 1))) := by
  have hV0 : V ≠ 0 := by omega
  obtain rfl := hX.uniq (low_is hV0 h1 h2)
  unfold brkO
  simp only
  rw [if_neg hV0]
  unfold lowX
  by_cases ht : 1023 < rtop V e
  · rw [if_pos (show 1024 ≤ rtop V e by omega), if_pos ht, decide_eq_true_iff]
    constructor
    · rintro ⟨k1, k2⟩
      refine Or.inl ⟨rfl, ?_⟩
      unfold rtop at k1
      have hB : blen V ≤ 1 := by omega
      have : V = 1 := by have := blen_le_iff.1 hB; omega
      rw [this]
      exact nsz_inf k2
    · rintro (⟨_, k⟩ | ⟨k, _⟩)
      · rw [← nsz_inf (e := 1024) rfl] at k
        obtain ⟨k1, k2⟩ := odd_uniq (k := 0) hV rfl h1 h2 (by decide) (by decide) k
        refine ⟨?_, k2⟩
        unfold rtop
        rw [k1, k2, show blen 1 = 1 from by decide]
        decide
      · omega
  · rw [if_neg (show ¬ 1024 ≤ rtop V e by omega), if_neg ht, decide_eq_true_iff, ← rB_odd (ru V e) hV]
    obtain ⟨r1, r2, r3, r4, r5⟩ := rnd_low hV0 h1 h2 (by omega)
    rw [r5]
    unfold bS
    rw [decide_eq_false_iff_not]
    constructor
    · intro k
      refine Or.inr ⟨r1, ?_⟩
      by_cases k1 : sz V e = vX (rX V e)
      · exact Or.inl k1
      · refine Or.inr ?_
        by_cases k2 : 2 * sz V e = vX (rX V e) + vX (rX V e + 1)
        · exact k2
        · exact absurd ⟨k1, k2⟩ k
    · rintro (⟨k, _⟩ | ⟨_, k⟩)
      · omega
      · rintro ⟨k1, k2⟩
        rcases k with k | k
        · exact k1 k
        · exact k2 k

/-- Is it worth that just? -/
def jst (V : Nat) (e u : Int) : Bool := if u ≤ e then true else decide (V % 2 ^ (u - e).toNat = 0)
/-- What Between tells. -/
def btwO : Option Dy → Nat × Nat × Bool
  | none => (0, 0, false)
  | some d => if d.V = 0 then (0, 0, true) else if 1024 ≤ rtop d.V d.e then (9218868437227405312, 9218868437227405312, true) else (rX d.V d.e, if jst d.V d.e (ru d.V d.e) then rX d.V d.e else rX d.V d.e + 1, true)
theorem jst_iff {V : Nat} {e : Int} (hV : V ≠ 0) (h1 : -1073741824 ≤ e) (h2 : e ≤ 1073741824) (ht : rtop V e ≤ 1023) : jst V e (ru V e) = true ↔ sz V e = vX (rX V e) := by
  obtain ⟨r1, r2, r3, r4, r5⟩ := rnd_low hV h1 h2 ht
  have hlt := vX_lt r1
  have hS' : hS (sz V e) (rX V e) = false ∧ bS (sz V e) (rX V e) = false ↔ sz V e = vX (rX V e) := by
    unfold hS bS
    rw [decide_eq_false_iff_not, decide_eq_false_iff_not]
    constructor
    · rintro ⟨k1, k2⟩
      by_cases k3 : sz V e = vX (rX V e)
      · exact k3
      · exact absurd ⟨k3, by omega⟩ k2
    · intro k; exact ⟨by omega, fun h => h.1 k⟩
  rw [← hS', ← r4, ← r5]
  unfold jst rH rB
  by_cases hu : ru V e ≤ e
  · rw [if_pos hu, if_pos hu, if_pos hu]; simp
  · rw [if_neg hu, if_neg hu, if_neg hu, show (ru V e - e).toNat = (ru V e - e - 1).toNat + 1 by omega]
    generalize (ru V e - e - 1).toNat = k
    rw [decide_eq_true_iff, decide_eq_false_iff_not, decide_eq_false_iff_not, Nat.mod_pow_succ]
    have hp := Nat.two_pow_pos k
    have hm : V / 2 ^ k % 2 = 0 ∨ V / 2 ^ k % 2 = 1 := by omega
    rcases hm with hm | hm
    · rw [hm]; simp
    · rw [hm]
      constructor
      · intro h; omega
      · rintro ⟨h, _⟩; exact absurd rfl h
theorem btw_low {g : Bool} {V : Nat} {e : Int} {X : Nat} (hV : V ≠ 0) (h1 : -1073741824 ≤ e) (h2 : e ≤ 1073741824) (hX : IsLow (sz V e) X) :
    btwO (some ⟨g, V, e⟩) = (X, if X = 9218868437227405312 ∨ sz V e = vX X then X else X + 1, true) := by
  obtain rfl := hX.uniq (low_is hV h1 h2)
  unfold btwO
  simp only
  rw [if_neg hV]
  unfold lowX
  by_cases ht : 1023 < rtop V e
  · rw [if_pos (show 1024 ≤ rtop V e by omega), if_pos ht, if_pos (Or.inl rfl)]
  · rw [if_neg (show ¬ 1024 ≤ rtop V e by omega), if_neg ht]
    obtain ⟨r1, r2, r3, r4, r5⟩ := rnd_low hV h1 h2 (by omega)
    have hj := jst_iff hV h1 h2 (by omega)
    by_cases hj1 : sz V e = vX (rX V e)
    · rw [hj.2 hj1, if_pos rfl, if_pos (Or.inr hj1)]
    · have : jst V e (ru V e) = false := by
        cases h : jst V e (ru V e)
        · rfl
        · exact absurd (hj.1 h) hj1
      rw [this, if_neg (by decide), if_neg (fun h => by rcases h with h | h; omega; exact hj1 h)]

/-- Bits of their parts, by Exact. -/
theorem ex_parts {L U : Nat} (h1 : U < 9007199254740992) (h2 : 0 < L → 4503599627370496 ≤ U) (h3 : L ≤ 2045) : exD (nO false U ((L : Int) - 1074)) = (L * 4503599627370496 + U, true) := by
  obtain ⟨f1, f2, f3, f4, f5⟩ := f_of (L := L) (M := U) false h1 h2 h3 (X := L * 4503599627370496 + U) (by rw [if_neg (by decide), Nat.zero_add])
  have e1 : fO (L * 4503599627370496 + U) = nO false U ((L : Int) - 1074) := by
    unfold fO fe
    rw [f3, f4, f5]
  rw [← e1, exD_back f1 f2, f3]
  by_cases h0 : U = 0
  · rw [if_pos h0]
    have : L = 0 := by
      rcases Nat.eq_zero_or_pos L with h | h
      · exact h
      · have := h2 h; omega
    rw [this, h0]
  · rw [if_neg h0]
/-- The size of what lies below, of parts. -/
theorem low_parts {V : Nat} {e : Int} (hV : V ≠ 0) (h1 : -1073741824 ≤ e) (h2 : e ≤ 1073741824) (ht : rtop V e ≤ 1023) :
    exD (nO false (rU V e (ru V e)) (ru V e)) = (rX V e, true) := by
  have hB := blen_pos hV
  obtain ⟨u, hu⟩ : ∃ u, ru V e = u := ⟨_, rfl⟩
  have hu1 : (u = rtop V e - 52 ∧ -1074 ≤ u) ∨ (u = -1074 ∧ rtop V e - 52 < -1074) := by unfold ru at hu; omega
  obtain ⟨L, hL⟩ : ∃ L : Nat, (u + 1074).toNat = L := ⟨_, rfl⟩
  have hL1 : u = (L : Int) - 1074 := by omega
  have hr : rtop V e = (blen V : Int) - 1 + e := rfl
  have hU : blen (rU V e u) ≤ 53 ∧ (0 < L → blen (rU V e u) = 53) := by
    unfold rU
    by_cases hc : u ≤ e
    · rw [if_pos hc, blen_shl hV]
      omega
    · rw [if_neg hc, Nat.div_div_eq_div_mul, ← Nat.pow_succ, show (u - e - 1).toNat.succ = (u - e).toNat by omega]
      have h9 : blen (V / 2 ^ (u - e).toNat) = blen V - (u - e).toNat := by
        generalize (u - e).toNat = k
        rcases Nat.lt_or_ge V (2 ^ k) with h | h
        · rw [Nat.div_eq_of_lt h, blen_zero]
          have := blen_le_iff.2 h
          omega
        · have hk : k < blen V := by
            rcases Nat.lt_or_ge k (blen V) with h' | h'
            · exact h'
            · exact absurd (blen_le_iff.1 h') (by omega)
          refine blen_eq ?_ ?_ (by omega)
          · refine (Nat.le_div_iff_mul_le (Nat.two_pow_pos _)).2 ?_
            rw [← Nat.pow_add, show blen V - k - 1 + k = blen V - 1 by omega]
            exact blen_le hV
          · refine (Nat.div_lt_iff_lt_mul (Nat.two_pow_pos _)).2 ?_
            rw [← Nat.pow_add, Nat.sub_add_cancel (by omega)]
            exact lt_blen V
      rw [h9]
      omega
  unfold rX
  rw [hu, hL]
  rw [hL1] at hU ⊢
  refine ex_parts (blen_le_iff.1 hU.1) (fun h => ?_) (by omega)
  have h5 := blen_le (x := rU V e ((L : Int) - 1074)) (fun h0 => by have h6 := hU.2 h; rw [h0] at h6; cases h6)
  rw [hU.2 h] at h5
  exact h5
end Go.Proofs.YtgacafdkhailmaaDoor

/- The walks of next.Up, Down, unit. -/
namespace Go.Proofs.YtgacafdkhailmaaDoor
open Go.RowKit

/-- What Up tells of a number. -/
def nupX (b : Nat) : Nat := if fm b = 0 then 1 else if fng b then b - 1 else b + 1
/-- .. and Down. -/
def ndnX (b : Nat) : Nat := flp (nupX (flp b))

theorem nup_lt {b : Nat} (hb : b < 18446744073709551616) (hf : Fnt b) : nupX b < 18446744073709551616 := by
  unfold nupX
  have h1 := fin_lt hf
  by_cases h0 : fm b = 0
  · rw [if_pos h0]; decide
  · rw [if_neg h0]
    by_cases h : 9223372036854775808 ≤ b
    · rw [show fng b = true from decide_eq_true h, if_pos rfl]; omega
    · rw [show fng b = false from decide_eq_false h, if_neg (by decide)]; omega

theorem up_no (b : Nat) (hb : b < 18446744073709551616) (w : World) (hf : ¬ Fnt b) :
    Calls Tryd.prog 8 #[.int .u64 (b : Int)] w fun e w' => e = .returned (.tuple #[.int .u64 0, .bool false]) ∧ w = w' := by
  have Hf : Hid (decide (Fnt b) = false) := decide_eq_false hf
  clear hf
  go_enter Tryd.func8, Tryd.ntmps8
  go_wp2_with fail
  refine (ffin_l false b hb w Hf).mono ?_
  rintro e w' ⟨rfl, rfl⟩
  go_wp2
  go_ret2
  exact ⟨rfl, rfl⟩
theorem up_yes (X b : Nat) (hb : b < 18446744073709551616) (w : World) (hf : Fnt b) (hX : Hid (nupX b = X)) :
    Calls Tryd.prog 8 #[.int .u64 (b : Int)] w fun e w' => e = .returned (.tuple #[.int .u64 (X : Int), .bool true]) ∧ w = w' := by
  have Hf : Hid (decide (Fnt b) = true) := decide_eq_true hf
  obtain ⟨v, hv⟩ : ∃ v, fkd b = v := ⟨_, rfl⟩
  have Hv := Lib.hid hv
  have hz := fkd_zero b
  rw [hv] at hz
  have hX' := hX.out
  have hlt := fin_lt hf
  unfold nupX at hX'
  by_cases h0 : fm b = 0
  · rw [if_pos h0] at hX'
    subst hX'
    obtain rfl := hz.2 h0
    clear hf hz h0 hX hv hlt
    go_enter Tryd.func8, Tryd.ntmps8
    go_wp2_with fail
    refine (ffin_l true b hb w Hf).mono ?_
    rintro e w' ⟨rfl, rfl⟩
    go_wp2_with fail
    refine (fkind_l 0 b hb w Hv).mono ?_
    rintro e w' ⟨rfl, rfl⟩
    go_wp2
    go_ret2
    exact ⟨rfl, rfl⟩
  · rw [if_neg h0] at hX'
    have hv0 : v ≠ 0 := fun h => h0 (hz.1 h)
    have c1 : ((v : Int) == 0) = false := beq_no (by omega)
    obtain ⟨s, hs⟩ : ∃ s, fng b = s := ⟨_, rfl⟩
    have Hs := Lib.hid hs
    rw [hs] at hX'
    cases s with
    | true =>
      rw [if_pos rfl] at hX'
      have hb1 : 1 ≤ b := by have := of_decide_eq_true hs; omega
      have e1 : (b : Int) - 1 = (X : Int) := by omega
      have hX9 : X < 18446744073709551616 := by omega
      clear hf hz h0 hX hv hlt hX' hs hv0
      go_enter Tryd.func8, Tryd.ntmps8
      go_wp2_with fail
      refine (ffin_l true b hb w Hf).mono ?_
      rintro e w' ⟨rfl, rfl⟩
      go_wp2_with fail
      refine (fkind_l v b hb w Hv).mono ?_
      rintro e w' ⟨rfl, rfl⟩
      go_wp2_with fail
      refine (fneg_l true b hb w Hs).mono ?_
      rintro e w' ⟨rfl, rfl⟩
      go_wp2
      go_ret2
      exact ⟨rfl, rfl⟩
    | false =>
      rw [if_neg (by decide)] at hX'
      have hb1 : b < 9223372036854775808 := by have := of_decide_eq_false hs; omega
      have e1 : (b : Int) + 1 = (X : Int) := by omega
      have hX9 : X < 18446744073709551616 := by omega
      clear hf hz h0 hX hv hlt hX' hs hv0
      go_enter Tryd.func8, Tryd.ntmps8
      go_wp2_with fail
      refine (ffin_l true b hb w Hf).mono ?_
      rintro e w' ⟨rfl, rfl⟩
      go_wp2_with fail
      refine (fkind_l v b hb w Hv).mono ?_
      rintro e w' ⟨rfl, rfl⟩
      go_wp2_with fail
      refine (fneg_l false b hb w Hs).mono ?_
      rintro e w' ⟨rfl, rfl⟩
      go_wp2
      go_ret2
      exact ⟨rfl, rfl⟩

theorem down_no (b : Nat) (hb : b < 18446744073709551616) (w : World) (hf : ¬ Fnt b) :
    Calls Tryd.prog 9 #[.int .u64 (b : Int)] w fun e w' => e = .returned (.tuple #[.int .u64 0, .bool false]) ∧ w = w' := by
  have h1 := xor_flp b hb
  obtain ⟨f1, f2, _, _⟩ := flp_facts hb
  have hf2 : ¬ Fnt (flp b) := fun h => hf ((size_same f2).2.2.2.1.1 h)
  generalize flp b = p at h1 f1 hf2
  have H1 := Lib.hid (up_no p f1 w hf2)
  clear f2 hf hf2
  go_enter Tryd.func9, Tryd.ntmps9
  go_wp2_with fail
  refine H1.out.mono ?_
  rintro e w' ⟨rfl, rfl⟩
  go_wp2
  go_ret2
  exact ⟨rfl, rfl⟩
theorem down_yes (X b : Nat) (hb : b < 18446744073709551616) (w : World) (hf : Fnt b) (hX : Hid (ndnX b = X)) :
    Calls Tryd.prog 9 #[.int .u64 (b : Int)] w fun e w' => e = .returned (.tuple #[.int .u64 (X : Int), .bool true]) ∧ w = w' := by
  have h1 := xor_flp b hb
  obtain ⟨f1, f2, _, _⟩ := flp_facts hb
  have hf2 : Fnt (flp b) := (size_same f2).2.2.2.1.2 hf
  have hX' := hX.out
  unfold ndnX at hX'
  generalize flp b = p at h1 f1 hf2 hX'
  have f3 := nup_lt f1 hf2
  have h2 := xor_flp (nupX p) f3
  rw [hX'] at h2
  have H1 := Lib.hid (up_yes (nupX p) p f1 w hf2 rfl)
  generalize nupX p = q at h2 H1
  clear f2 hf hf2 hX hX' f3
  go_enter Tryd.func9, Tryd.ntmps9
  go_wp2_with fail
  refine H1.out.mono ?_
  rintro e w' ⟨rfl, rfl⟩
  go_wp2
  go_ret2
  exact ⟨rfl, rfl⟩

/-- What unit tells. -/
def duni (V : Nat) (e : Int) : Int := if V = 0 then -1074 else max (topD V e - 52) (-1074)
theorem unit_l (u : Int) (g : Bool) (A : Option Addr) (n c : Nat) (xs : List Nat) (e0 : Int) (w : World) (hA : Lim w A n c xs) (hn : n ≤ 4294967296) (hu : Hid (duni (val xs) e0 = u)) :
    Calls Tryd.prog 33 #[.agg #[.bool g, .slice A n c, .int .i64 e0]] w fun e w' => e = .returned (.int .i64 u) ∧ Below w.heap.size w w' := by
  have a1 := below1 w (.cells #[.bool g, .slice A n c, .int .i64 e0] 28)
  have HS := Lib.hid a1
  have hu' := hu.out
  unfold duni at hu'
  by_cases h0 : val xs = 0
  · rw [if_pos h0] at hu'
    subst hu'
    have H1 := Lib.hid (top_zero g A n c xs e0 _ (hA.below a1) hn h0)
    clear a1 h0 hA hu
    go_enter Tryd.func33, Tryd.ntmps33
    go_wp2_with fail
    refine H1.out.mono ?_
    rintro e w1 ⟨rfl, hb⟩
    have Hfin := Lib.hid (HS.out.trans (hb.mono HS.out.size))
    clear hb H1 HS
    go_wp2
    go_ret
    exact ⟨rfl, Hfin.out⟩
  · rw [if_neg h0] at hu'
    obtain ⟨T, hT⟩ : ∃ T, topD (val xs) e0 = T := ⟨_, rfl⟩
    have H1 := Lib.hid (top_l T g A n c xs e0 _ (hA.below a1) hn h0 hT)
    have hbl := hA.blen_le
    have hh := held_bd e0
    have hB := blen_pos h0
    have hT' := hT
    unfold topD at hT'
    have b1 : -2147483648 ≤ T := by omega
    have b2 : T ≤ 300000000000 := by omega
    rw [hT] at hu'
    have HU := Lib.hid hu'
    clear a1 h0 hA hu hu' hT hbl hh hB hT'
    go_enter Tryd.func33, Tryd.ntmps33
    go_wp2_with fail
    refine H1.out.mono ?_
    rintro e w1 ⟨rfl, hb⟩
    have Hfin := Lib.hid (HS.out.trans (hb.mono HS.out.size))
    clear hb H1 HS
    go_wp2
    go_ret
    exact ⟨ret_int HU.out, Hfin.out⟩
end Go.Proofs.YtgacafdkhailmaaDoor

/- The walk of next.Middle. -/
namespace Go.Proofs.YtgacafdkhailmaaDoor
open Go.RowKit

/-- While it is walked: the result's block, the number in its block. -/
def HoldM (w : World) (p : Nat) (g : Bool) (A : Option Addr) (n c : Nat) (xs : List Nat) (e0 : Int) (u : World) : Prop :=
  Bd u w.heap.size 28 false none 0 0 0 ∧ Bd u p 28 g A n c e0 ∧ Lim u A n c xs ∧ Tab u ∧ w.heap.size < p ∧ Below w.heap.size w u
section
variable {w : World} {p : Nat} {g : Bool} {A : Option Addr} {n c : Nat} {xs : List Nat} {e0 : Int} {u u' : World}
theorem HoldM.below (h : HoldM w p g A n c xs e0 u) (hb : Below u.heap.size u u') : HoldM w p g A n c xs e0 u' :=
  ⟨h.1.below hb, h.2.1.below hb, h.2.2.1.below hb, h.2.2.2.1.below hb, h.2.2.2.2.1, h.2.2.2.2.2.trans (hb.mono h.2.2.2.2.2.size)⟩
theorem HoldM.cells (h : HoldM w p g A n c xs e0 u) : u.cell? ⟨p, 0, none⟩ = some (.bool g) ∧ u.cell? ⟨p, 1, none⟩ = some (.slice A n c) ∧ u.cell? ⟨p, 2, none⟩ = some (.int .i64 e0) := ⟨h.2.1.c0, h.2.1.c1, h.2.1.c2⟩
theorem HoldM.tab (h : HoldM w p g A n c xs e0 u) : Tab u := h.2.2.2.1
theorem HoldM.lt (h : HoldM w p g A n c xs e0 u) : p < u.heap.size := h.2.1.lt
theorem HoldM.put (h : HoldM w p g A n c xs e0 u) {q : Nat} (hq : p < q) {t : Nat} {g0 : Bool} {A0 : Option Addr} {n0 c0 : Nat} {e1 : Int} (hB : Bd u q t g0 A0 n0 c0 e1) (g' : Bool) (A' : Option Addr) (n' c' : Nat) (e' : Int) : HoldM w p g A n c xs e0 (World.put u q g' A' n' c' e') :=
  ⟨h.1.other (by have := h.2.2.2.2.1; omega) _ _ _ _ _, h.2.1.other (by omega) _ _ _ _ _, hB.lim h.2.2.1 _ _ _ _ _, hB.tab h.2.2.2.1 _ _ _ _ _, h.2.2.2.2.1, below_put h.2.2.2.2.2 (by have := h.2.2.2.2.1; omega) _ _ _ _ _⟩
end
/-- .. and a half in a block q. -/
def RelM (w : World) (p : Nat) (g : Bool) (A : Option Addr) (n c : Nat) (xs : List Nat) (e0 : Int) (q : Nat) (k : Bool) (B : Option Addr) (m d : Nat) (ys : List Nat) (e1 : Int) (V : Nat) (u : World) : Prop :=
  HoldM w p g A n c xs e0 u ∧ Bd u q 28 k B m d e1 ∧ Lim u B m d ys ∧ val ys = V ∧ m ≤ 1

theorem midD_len {zs : List Nat} {b : Nat} {w : World} {A : Option Addr} {m c : Nat} (h : Lim w A m c zs) (hb : Bare zs) (hv : val zs = 2 * fm b + 1) : m ≤ 1 := by
  have h1 := (f_parts b).2.1
  have h2 : blen (val zs) ≤ 64 := blen_le_iff.2 (by rw [hv]; show 2 * fm b + 1 < 18446744073709551616; omega)
  rw [← h.len]
  exact len_of_blen h.2.2.1 hb h2 (by decide)

theorem mid_no (b : Nat) (hb : b < 18446744073709551616) (w : World) (hf : ¬ Fnt b) :
    Calls Tryd.prog 10 #[.int .u64 (b : Int)] w fun e w' => e = .returned (.tuple #[.agg #[.bool false, .slice none 0 0, .int .i64 0], .bool false]) ∧ Below w.heap.size w w' := by
  have a1 := below1 w (.cells #[.bool false, .slice none 0 0, .int .i64 0] 28)
  have HS := Lib.hid a1
  have Hb := Lib.hid (Bd.new w 28 false none 0 0 0)
  have H1 := Lib.hid (fdyad_no b hb (w.alloc (.cells #[.bool false, .slice none 0 0, .int .i64 0] 28)) hf)
  clear a1 hf
  go_enter Tryd.func10, Tryd.ntmps10
  go_wp2_with fail
  refine H1.out.mono ?_
  rintro e w1 ⟨rfl, hb1⟩
  have k1 := (Hb.out.below hb1).alloc (.cells #[.bool false, .slice none 0 0, .int .i64 0] 28)
  have x0 := k1.c0
  have x1 := k1.c1
  have x2 := k1.c2
  have xf := k1.fz
  have s1 := HS.out.trans (hb1.mono HS.out.size)
  have Hfin := Lib.hid (below_put (s1.alloc s1.size (.cells #[.bool false, .slice none 0 0, .int .i64 0] 28)) (Nat.le_refl _) false none 0 0 0)
  clear k1 s1 hb1 HS Hb H1
  go_wp2
  exact bodyPost_ret (v := .tuple #[.agg #[.bool false, .slice none 0 0, .int .i64 0], .bool false]) (by simp [results, Tryd.results10, go_sem, x0, x1, x2]) rfl ⟨rfl, Hfin.out⟩

set_option maxHeartbeats 4000000 in
theorem mid_yes (b : Nat) (hb : b < 18446744073709551616) (w : World) (hT : Tab w) (hf : Fnt b) :
    Calls Tryd.prog 10 #[.int .u64 (b : Int)] w (FTold w (midD b) 1) := by
  have a1 := below1 w (.cells #[.bool false, .slice none 0 0, .int .i64 0] 28)
  have HS := Lib.hid a1
  have Hb := Lib.hid (Bd.new w 28 false none 0 0 0)
  have H1 := fdyad_yes b hb (w.alloc (.cells #[.bool false, .slice none 0 0, .int .i64 0] 28)) (hT.below a1) hf
  have HT := Lib.hid (hT.below a1)
  have hadd := mid_add hf
  have hself := mk_self (mk_fin hf)
  have hbd := fe_bd hf
  have hlen : ∀ (zs : List Nat) (u : World) (A : Option Addr) (m c : Nat), Lim u A m c zs → Bare zs → val zs = (midD b).V → m ≤ 1 := fun _ _ _ _ _ h1 h2 h3 => midD_len h1 h2 h3
  have hhalf := half_mk (fng b) hf
  have hhs := mk_self hhalf
  obtain ⟨s, hs⟩ : ∃ s, fng b = s := ⟨_, rfl⟩
  obtain ⟨u1, hu1⟩ : ∃ u, fe b = u := ⟨_, rfl⟩
  have hunit : duni (fO b).V (fO b).e = u1 := by
    rw [← hu1]
    by_cases h0 : fm b = 0
    · rw [fO_zero h0, unit_zero h0]; rfl
    · obtain ⟨_, k2, _⟩ := fO_pos hf h0
      have hV0 : (fO b).V ≠ 0 := by rw [k2]; exact fun h => h0 (odd_part_zero.1 h)
      rw [duni, if_neg hV0, topD]
      exact unit_fin hf h0
  obtain ⟨⟨mg, mV, mE⟩, hmid⟩ : ∃ d, midD b = d := ⟨_, rfl⟩
  rw [hmid] at hadd hlen ⊢
  rw [hs, hu1] at hadd hhalf hhs
  rw [hu1] at hbd
  obtain ⟨⟨dg, dV, dE⟩, hd⟩ : ∃ d, fO b = d := ⟨_, rfl⟩
  rw [hd] at H1 hadd hself hunit
  simp only at hself hunit hhs hlen
  have H1 := Lib.hid H1
  have Hs := Lib.hid hs
  have Hadd : Hid (addO (mk dg dV dE) (mk s 1 (u1 - 1)) = some ⟨mg, mV, mE⟩) := by
    show _ = _
    rw [hself, hhs]
    exact hadd
  have Hhalf := Lib.hid hhalf
  have Hunit := Lib.hid hunit
  have HLen := Lib.hid hlen
  clear a1 hT hf hadd hself hhalf hhs hs hu1 hunit hmid hd hlen
  go_enter Tryd.func10, Tryd.ntmps10
  go_wp2_with fail
  refine H1.out.mono ?_
  rintro e w1 ⟨A1, m1, c1, zs, rfl, hm1, hl1, hb1, hv1, hB1⟩
  have a2 := below1 w1 (.cells #[.bool dg, .slice A1 m1 c1, .int .i64 dE] 28)
  have hsz : w.heap.size < w1.heap.size := (Hb.out.below hB1).lt
  have s1 := HS.out.trans (hB1.mono HS.out.size)
  have h0 : HoldM w w1.heap.size dg A1 m1 c1 zs dE (w1.alloc (.cells #[.bool dg, .slice A1 m1 c1, .int .i64 dE] 28)) :=
    ⟨(Hb.out.below hB1).below a2, Bd.new w1 _ _ _ _ _ _, hl1.below a2, (HT.out.below hB1).below a2, hsz, s1.trans (a2.mono s1.size)⟩
  have cur := Lib.hid (h0.below (below_drew _))
  have F1 := Lib.hid ((h0.below (below1 _ (.cells #[.bool false, .slice none 0 0, .int .i64 0] 28))).below (below_drew _))
  have z1 := Bd.new (w1.alloc (.cells #[.bool dg, .slice A1 m1 c1, .int .i64 dE] 28)) 28 false none 0 0 0
  rw [World.size_alloc] at z1
  have Z1 := Lib.hid (And.intro z1.drew (Nat.lt_succ_self w1.heap.size))
  have HN : Hid (∀ u, Calls Tryd.prog 30 #[.int .u64 (b : Int)] u fun e w' => e = .returned (.bool s) ∧ u = w') := fun u => fneg_l s b hb u Hs
  have HO : Hid (∀ u, Calls Tryd.prog 32 #[.int .u64 1] u (Tells u 1 1)) := fun u => of_any 1 (by decide) u
  have HU : Hid (∀ u, HoldM w w1.heap.size dg A1 m1 c1 zs dE u → Calls Tryd.prog 33 #[.agg #[.bool dg, .slice A1 m1 c1, .int .i64 dE]] u fun e w' => e = .returned (.int .i64 u1) ∧ Below u.heap.size u w') := fun u hu =>
    unit_l u1 dg A1 m1 c1 zs dE u hu.2.2.1 (by omega) (by show duni _ _ = _; rw [hv1]; exact Hunit.out)
  have HM : Hid (∀ u A2 m2 c2 ys, Lim u A2 m2 c2 ys → val ys = 1 → m2 ≤ 1 → Tab u → Calls Tryd.prog 31 #[.bool s, .slice A2 m2 c2, .int .i64 (u1 - 1)] u fun e w' => ∃ (A3 : Option Addr) (m3 c3 : Nat) (ts : List Nat), e = .returned (.tuple #[.agg #[.bool s, .slice A3 m3 c3, .int .i64 (u1 - 1)], .int .i64 0]) ∧ m3 ≤ 1 ∧ Lim w' A3 m3 c3 ts ∧ val ts = 1 ∧ Below u.heap.size u w') := fun u A2 m2 c2 ys q1 q2 q3 q4 => by
    have h := make_any s A2 m2 c2 ys (u1 - 1) u q1 (by omega) q4
    rw [q2, Hhalf.out] at h
    refine h.mono ?_
    rintro e w' ⟨g3, A3, m3, c3, ts, E3, r3, he, hm3, k1, k2, k3, k4⟩
    obtain ⟨i1, i2, i3, i4⟩ := k3
    simp only at i2 i3 i4
    rw [i1, i2, i4] at he
    exact ⟨A3, m3, c3, ts, he, by omega, k1, i3, k4⟩
  have hw1 : IntKind.i64.wrap (u1 - 1) = u1 - 1 := by rw [IntKind.wrap_i64]; omega
  have HV1 := Lib.hid hv1
  clear a2 h0 z1 hl1 hb1 hv1 hB1 s1 HS Hb HT H1 Hs Hunit Hhalf
  go_wp2_with fail
  go_cut [6, 7] from 10 (fun s6 s7 wx => ∃ (q m5 c5 : Nat) (A5 : Option Addr) (es : List Nat), s6 = .pointer (some ⟨q, 0, none⟩) ∧ s7 = .int .i64 0 ∧ Hid (RelM w w1.heap.size dg A1 m1 c1 zs dE q s A5 m5 c5 es (u1 - 1) 1 wx))
  case first =>
    go_region_held3 (fun w' => w'.cell? ⟨w1.heap.size, 0, none⟩ = some (.bool dg) ∧ w'.cell? ⟨w1.heap.size, 1, none⟩ = some (.slice A1 m1 c1) ∧ w'.cell? ⟨w1.heap.size, 2, none⟩ = some (.int .i64 dE))
      (first | (with_reducible exact cur.out.cells) | (with_reducible exact F1.out.cells) | (with_reducible exact (cur.out.below (below1 _ _)).cells) | (with_reducible exact K9.out))
      (first
        | (go_at_call 30; (with_reducible refine (HN.out _).mono ?_); rintro e wn ⟨rfl, rfl⟩)
        | (go_at_call 32; (with_reducible refine (HO.out _).mono ?_); rintro e w2 ⟨A2, m2, c2, ys, rfl, hm2, hl2, hb2, hv2, hB2⟩; (first | (with_reducible (replace zz := Lib.hid (And.intro (zz.out.1.below hB2) zz.out.2))) | (with_reducible (have zz := Lib.hid (And.intro (Z1.out.1.below hB2) Z1.out.2))) | (with_reducible (have zz := Lib.hid (And.intro ((Bd.new _ 28 false none 0 0 0).below hB2) cur.out.lt))) | skip); (first | (with_reducible (replace cur := Lib.hid (cur.out.below hB2))) | (with_reducible (replace cur := Lib.hid (F1.out.below hB2))) | (with_reducible (replace cur := Lib.hid ((cur.out.below (below1 _ (.cells #[.bool false, .slice none 0 0, .int .i64 0] 28))).below hB2)))); have L2 := Lib.hid hl2; have V2 := Lib.hid hv2; clear hl2 hb2 hB2 hv2)
        | (go_at_call 33; (with_reducible refine (HU.out _ (by first | (with_reducible exact cur.out) | (with_reducible exact F1.out) | (with_reducible exact cur.out.below (below1 _ _)))).mono ?_); rintro e w3 ⟨rfl, hB3⟩; (first | (with_reducible (replace zz := Lib.hid (And.intro (zz.out.1.below hB3) zz.out.2))) | (with_reducible (have zz := Lib.hid (And.intro (Z1.out.1.below hB3) Z1.out.2))) | (with_reducible (have zz := Lib.hid (And.intro ((Bd.new _ 28 false none 0 0 0).below hB3) cur.out.lt))) | skip); (first | (with_reducible (replace cur := Lib.hid (cur.out.below hB3))) | (with_reducible (replace cur := Lib.hid (F1.out.below hB3))) | (with_reducible (replace cur := Lib.hid ((cur.out.below (below1 _ (.cells #[.bool false, .slice none 0 0, .int .i64 0] 28))).below hB3)))); (first | (with_reducible (replace L2 := Lib.hid (L2.out.below hB3))) | (with_reducible (replace L2 := Lib.hid ((L2.out.alloc (.cells #[.bool false, .slice none 0 0, .int .i64 0] 28)).below hB3))) | skip); clear hB3)
        | (go_at_call 31; (with_reducible refine (HM.out _ A2 m2 c2 ys (by first | (with_reducible exact L2.out) | (with_reducible exact L2.out.alloc _)) V2.out hm2 (by first | (with_reducible exact cur.out.tab) | (with_reducible exact (cur.out.below (below1 _ _)).tab))).mono ?_); rintro e w4 ⟨A4, m4, c4, ts, rfl, hm4, hl4, hv4, hB4⟩; (first | (with_reducible (replace zz := Lib.hid (And.intro (zz.out.1.below hB4) zz.out.2))) | (with_reducible (have zz := Lib.hid (And.intro (Z1.out.1.below hB4) Z1.out.2))) | (with_reducible (have zz := Lib.hid (And.intro ((Bd.new _ 28 false none 0 0 0).below hB4) cur.out.lt))) | skip); (first | (with_reducible (replace cur := Lib.hid (cur.out.below hB4))) | (with_reducible (replace cur := Lib.hid (F1.out.below hB4))) | (with_reducible (replace cur := Lib.hid ((cur.out.below (below1 _ (.cells #[.bool false, .slice none 0 0, .int .i64 0] 28))).below hB4)))); have L4 := Lib.hid hl4; have V4 := Lib.hid hv4; clear hl4 hB4 hv4; (first | (have x0 := zz.out.1.c0; have x1 := zz.out.1.c1; have x2 := zz.out.1.c2; have xf := zz.out.1.fz; have K8 := cur.out.put zz.out.2 zz.out.1 s A4 m4 c4 (u1 - 1); have K9 := Lib.hid K8.cells; have Fin : Hid (RelM w w1.heap.size dg A1 m1 c1 zs dE _ s A4 m4 c4 ts (u1 - 1) 1 _) := ⟨K8, zz.out.1.put _ _ _ _ _, zz.out.1.lim L4.out _ _ _ _ _, V4.out, hm4⟩; clear K8) | (have Fin : Hid (RelM w w1.heap.size dg A1 m1 c1 zs dE w4.heap.size s A4 m4 c4 ts (u1 - 1) 1 (w4.alloc (.cells #[.bool s, .slice A4 m4 c4, .int .i64 (u1 - 1)] 28))) := ⟨cur.out.below (below1 _ _), Bd.new w4 _ _ _ _ _ _, L4.out.alloc _, V4.out, hm4⟩; have K9 := Lib.hid (cur.out.below (below1 _ (.cells #[.bool s, .slice A4 m4 c4, .int .i64 (u1 - 1)] 28))).cells))))
    all_goals (go_wp2_with fail)
    all_goals go_meet
    all_goals (refine ⟨_, m4, c4, A4, ts, rfl, rfl, ?_⟩)
    all_goals (with_reducible exact Fin)
  case rest =>
    obtain ⟨wA, rfl⟩ : ∃ wA, wA = wc := ⟨_, rfl⟩
    obtain ⟨q, m5, c5, A5, es, rfl, rfl, HR⟩ := hcut
    obtain ⟨h1, h2, h3, h4, h5⟩ := HR.out
    have HA := Lib.hid (dadd_any (some ⟨mg, mV, mE⟩) dg A1 m1 c1 zs dE s A5 m5 c5 es (u1 - 1) wA h1.2.2.1 h3 (by omega) (by omega) h1.tab (by show addO _ _ = _; rw [HV1.out, h4]; exact Hadd.out))
    have y0 := h1.2.1.c0
    have y1 := h1.2.1.c1
    have y2 := h1.2.1.c2
    have v0 := h2.c0
    have v1 := h2.c1
    have v2 := h2.c2
    clear h1 h2 h3 h4 cur F1 Z1 HN HO HU HM HV1 Hadd
    go_wp2_with fail
    refine HA.out.mono ?_
    rintro e w5 ⟨g6, A6, m6, c6, ts, E6, r6, rfl, hm6, hl6, hb6, his, hB6⟩
    obtain ⟨rfl, rfl, hz6, rfl⟩ := his
    simp only at hz6
    have hr := HR.out.1.below hB6
    have hm7 := HLen.out ts w5 A6 m6 c6 hl6 hb6 hz6
    have z0 := fun o => (hr.1.alloc o).c0
    have z1 := fun o => (hr.1.alloc o).c1
    have z2 := fun o => (hr.1.alloc o).c2
    have zf := fun o => (hr.1.alloc o).fz
    have n1 := Bd.new w5 28 g6 A6 m6 c6 E6
    have t0 := n1.c0
    have t1 := n1.c1
    have t2 := n1.c2
    have Hfin : Hid (FTold w ⟨g6, mV, E6⟩ 1 (.returned (.tuple #[.agg #[.bool g6, .slice A6 m6 c6, .int .i64 E6], .bool true])) (World.put (w5.alloc (.cells #[.bool g6, .slice A6 m6 c6, .int .i64 E6] 28)) w.heap.size g6 A6 m6 c6 E6)) :=
      ⟨A6, m6, c6, ts, rfl, hm7, (hr.1.alloc _).lim (hl6.alloc _) _ _ _ _ _, hb6, hz6, below_put (hr.2.2.2.2.2.alloc hr.2.2.2.2.2.size _) (Nat.le_refl _) _ _ _ _ _⟩
    clear hr n1 hl6 hb6 hz6 hB6 HR HA HLen y0 y1 y2 v0 v1 v2
    go_wp2
    exact bodyPost_ret (v := .tuple #[.agg #[.bool g6, .slice A6 m6 c6, .int .i64 E6], .bool true]) (by simp [results, Tryd.results10, go_sem, z0, z1, z2]) rfl Hfin.out
end Go.Proofs.YtgacafdkhailmaaDoor

/- The walk of next.Beside. -/
namespace Go.Proofs.YtgacafdkhailmaaDoor
open Go.RowKit

/-- Two dyads that are told with a true. -/
def BTold (w : World) (a b : Dy) (e : Ending) (w' : World) : Prop :=
  ∃ (A : Option Addr) (m c : Nat) (zs : List Nat) (B : Option Addr) (n d : Nat) (us : List Nat), e = .returned (.tuple #[.agg #[.bool a.neg, .slice A m c, .int .i64 a.e], .agg #[.bool b.neg, .slice B n d, .int .i64 b.e], .bool true]) ∧ m ≤ 1 ∧ n ≤ 1 ∧ Lim w' A m c zs ∧ Lim w' B n d us ∧ Bare zs ∧ Bare us ∧ val zs = a.V ∧ val us = b.V ∧ Below w.heap.size w w'

/-- Both results' blocks. -/
def HoldB2 (w : World) (g : Bool) (A : Option Addr) (n c : Nat) (e1 : Int) (k : Bool) (B : Option Addr) (m d : Nat) (e2 : Int) (u : World) : Prop :=
  Bd u w.heap.size 28 g A n c e1 ∧ Bd u (w.heap.size + 1) 28 k B m d e2 ∧ Below w.heap.size w u
section
variable {w : World} {g : Bool} {A : Option Addr} {n c : Nat} {e1 : Int} {k : Bool} {B : Option Addr} {m d : Nat} {e2 : Int} {u u' : World}
theorem HoldB2.below (h : HoldB2 w g A n c e1 k B m d e2 u) (hb : Below u.heap.size u u') : HoldB2 w g A n c e1 k B m d e2 u' := ⟨h.1.below hb, h.2.1.below hb, h.2.2.trans (hb.mono h.2.2.size)⟩
theorem HoldB2.put1 (h : HoldB2 w g A n c e1 k B m d e2 u) (g' : Bool) (A' : Option Addr) (n' c' : Nat) (e' : Int) : HoldB2 w g' A' n' c' e' k B m d e2 (World.put u w.heap.size g' A' n' c' e') :=
  ⟨h.1.put _ _ _ _ _, h.2.1.other (by omega) _ _ _ _ _, below_put h.2.2 (Nat.le_refl _) _ _ _ _ _⟩
theorem HoldB2.put2 (h : HoldB2 w g A n c e1 k B m d e2 u) (g' : Bool) (A' : Option Addr) (n' c' : Nat) (e' : Int) : HoldB2 w g A n c e1 g' A' n' c' e' (World.put u (w.heap.size + 1) g' A' n' c' e') :=
  ⟨h.1.other (by omega) _ _ _ _ _, h.2.1.put _ _ _ _ _, below_put h.2.2 (Nat.le_succ _) _ _ _ _ _⟩
theorem HoldB2.start (w : World) : HoldB2 w false none 0 0 0 false none 0 0 0 ((w.alloc (.cells #[.bool false, .slice none 0 0, .int .i64 0] 28)).alloc (.cells #[.bool false, .slice none 0 0, .int .i64 0] 28)) := by
  have b2 := Bd.new (w.alloc (.cells #[.bool false, .slice none 0 0, .int .i64 0] 28)) 28 false none 0 0 0
  rw [World.size_alloc] at b2
  exact ⟨(Bd.new w 28 false none 0 0 0).alloc _, b2, (below1 _ _).alloc (by simp) _⟩
end

theorem beside_no (b : Nat) (hb : b < 18446744073709551616) (w : World) (hf : fm b = 0 ∨ ¬ Fnt b) :
    Calls Tryd.prog 11 #[.int .u64 (b : Int)] w fun e w' => e = .returned (.tuple #[.agg #[.bool false, .slice none 0 0, .int .i64 0], .agg #[.bool false, .slice none 0 0, .int .i64 0], .bool false]) ∧ Below w.heap.size w w' := by
  have h0 := HoldB2.start w
  have Hfin := Lib.hid h0.2.2
  have x0 := h0.1.c0
  have x1 := h0.1.c1
  have x2 := h0.1.c2
  have xf := h0.1.fz
  have y0 := h0.2.1.c0
  have y1 := h0.2.1.c1
  have y2 := h0.2.1.c2
  have yf := h0.2.1.fz
  clear h0
  by_cases hF : Fnt b
  · have h0 : fm b = 0 := by rcases hf with h | h; exact h; exact absurd hF h
    have Hf : Hid (decide (Fnt b) = true) := decide_eq_true hF
    have Hv : Hid (fkd b = 0) := (fkd_zero b).2 h0
    clear hf hF h0
    go_enter Tryd.func11, Tryd.ntmps11
    go_wp2_with fail
    refine (ffin_l true b hb _ Hf).mono ?_
    rintro e w' ⟨rfl, rfl⟩
    go_wp2_with fail
    refine (fkind_l 0 b hb _ Hv).mono ?_
    rintro e w' ⟨rfl, rfl⟩
    go_wp2
    exact bodyPost_ret (v := .tuple #[.agg #[.bool false, .slice none 0 0, .int .i64 0], .agg #[.bool false, .slice none 0 0, .int .i64 0], .bool false]) (by simp [results, Tryd.results11, go_sem, x0, x1, x2, y0, y1, y2]) rfl ⟨rfl, Hfin.out⟩
  · have Hf : Hid (decide (Fnt b) = false) := decide_eq_false hF
    clear hf hF
    go_enter Tryd.func11, Tryd.ntmps11
    go_wp2_with fail
    refine (ffin_l false b hb _ Hf).mono ?_
    rintro e w' ⟨rfl, rfl⟩
    go_wp2
    exact bodyPost_ret (v := .tuple #[.agg #[.bool false, .slice none 0 0, .int .i64 0], .agg #[.bool false, .slice none 0 0, .int .i64 0], .bool false]) (by simp [results, Tryd.results11, go_sem, x0, x1, x2, y0, y1, y2]) rfl ⟨rfl, Hfin.out⟩

set_option maxHeartbeats 2000000 in
theorem beside_yes (x b : Nat) (hb : b < 18446744073709551616) (w : World) (hT : Tab w) (hf : Fnt b) (h0 : fm b ≠ 0) (hx : b % 9223372036854775808 = x) :
    Calls Tryd.prog 11 #[.int .u64 (b : Int)] w (BTold w (midD (x - 1)) (midD x)) := by
  have Hf : Hid (decide (Fnt b) = true) := decide_eq_true hf
  obtain ⟨v, hv⟩ : ∃ v, fkd b = v := ⟨_, rfl⟩
  have Hv := Lib.hid hv
  have hz := fkd_zero b
  rw [hv] at hz
  have hv0 : v ≠ 0 := fun h => h0 (hz.1 h)
  have c1 : ((v : Int) == 0) = false := beq_no (by omega)
  have hl := fin_lt hf
  have hx0 : x ≠ 0 := fun h => h0 ((fm_zero_iff b).2 (by rw [hx]; exact h))
  have ho := nsign_off b hb
  rw [hx] at ho hl
  obtain ⟨y, hy⟩ : ∃ y, x - 1 = y := ⟨_, rfl⟩
  have ey : (x : Int) - 1 = (y : Int) := by omega
  have hf1 : Fnt y := fin_of_lt (by omega)
  have hf2 : Fnt x := fin_of_lt (by omega)
  rw [hy]
  have hyb : y < 18446744073709551616 := by omega
  have hxb : x < 18446744073709551616 := by omega
  have H0 := Lib.hid (HoldB2.start w)
  have HM1 : Hid (∀ u, Tab u → Calls Tryd.prog 10 #[.int .u64 (y : Int)] u (FTold u (midD y) 1)) := fun u hu => mid_yes y hyb u hu hf1
  have HM2 : Hid (∀ u, Tab u → Calls Tryd.prog 10 #[.int .u64 (x : Int)] u (FTold u (midD x) 1)) := fun u hu => mid_yes x hxb u hu hf2
  generalize midD y = dy at HM1 ⊢
  generalize midD x = dx at HM2 ⊢
  obtain ⟨yg, yV, yE⟩ := dy
  obtain ⟨xg, xV, xE⟩ := dx
  have HT := Lib.hid (hT.below H0.out.2.2)
  clear hz hv hf h0 hx hl hx0 hy hf1 hf2 hT hv0
  go_enter Tryd.func11, Tryd.ntmps11
  go_wp2_with fail
  refine (ffin_l true b hb _ Hf).mono ?_
  rintro e w' ⟨rfl, rfl⟩
  go_wp2_with fail
  refine (fkind_l v b hb _ Hv).mono ?_
  rintro e w' ⟨rfl, rfl⟩
  go_wp2_with fail
  refine (HM1.out _ HT.out).mono ?_
  rintro e w1 ⟨A1, m1, c1', zs, rfl, hm1, hl1, hb1, hv1, hB1⟩
  have h1 := H0.out.below hB1
  have x0 := h1.1.c0
  have x1 := h1.1.c1
  have x2 := h1.1.c2
  have xf := h1.1.fz
  have H2 := Lib.hid (h1.put1 yg A1 m1 c1' yE)
  have T2 := Lib.hid (h1.1.tab (HT.out.below hB1) yg A1 m1 c1' yE)
  have L2 := Lib.hid (h1.1.lim hl1 yg A1 m1 c1' yE)
  have B2 := Lib.hid (And.intro hb1 hv1)
  clear h1 hl1 hb1 hv1 hB1 H0 HT HM1
  go_wp2_with fail
  refine (HM2.out _ T2.out).mono ?_
  rintro e w2 ⟨A3, m3, c3, us, rfl, hm3, hl3, hb3, hv3, hB3⟩
  have h3 := H2.out.below hB3
  have l2 := L2.out.below hB3
  have y0 := h3.2.1.c0
  have y1 := h3.2.1.c1
  have y2 := h3.2.1.c2
  have yf := h3.2.1.fz
  have z0 := h3.1.c0
  have z1 := h3.1.c1
  have z2 := h3.1.c2
  have zf := h3.1.fz
  have h4 := h3.put2 xg A3 m3 c3 xE
  have l4 := h3.2.1.lim l2 xg A3 m3 c3 xE
  have l5 := h3.2.1.lim hl3 xg A3 m3 c3 xE
  have q0 := h4.1.c0
  have q1 := h4.1.c1
  have q2 := h4.1.c2
  have qf := h4.1.fz
  have r0 := h4.2.1.c0
  have r1 := h4.2.1.c1
  have r2 := h4.2.1.c2
  have rf := h4.2.1.fz
  have h5 := h4.put1 yg A1 m1 c1' yE
  have l6 := h4.1.lim l4 yg A1 m1 c1' yE
  have l7 := h4.1.lim l5 yg A1 m1 c1' yE
  have h6 := h5.put2 xg A3 m3 c3 xE
  have K0 := Lib.hid (h4.1.drew.six h4.2.1.drew)
  have K1 := Lib.hid (h5.1.drew.six h5.2.1.drew)
  have K2 := Lib.hid (h6.1.drew.six h6.2.1.drew)
  have Hfin : Hid (BTold w ⟨yg, yV, yE⟩ ⟨xg, xV, xE⟩ (.returned (.tuple #[.agg #[.bool yg, .slice A1 m1 c1', .int .i64 yE], .agg #[.bool xg, .slice A3 m3 c3, .int .i64 xE], .bool true])) (World.put (World.put (World.put w2 (w.heap.size + 1) xg A3 m3 c3 xE) w.heap.size yg A1 m1 c1' yE) (w.heap.size + 1) xg A3 m3 c3 xE).drew) :=
    ⟨A1, m1, c1', zs, A3, m3, c3, us, rfl, hm1, hm3, (h5.2.1.lim l6 _ _ _ _ _).drew, (h5.2.1.lim l7 _ _ _ _ _).drew, B2.out.1, hb3, B2.out.2, hv3, h6.2.2.drew⟩
  clear h3 h4 h5 h6 l2 l4 l5 l6 l7 hl3 hb3 hv3 hB3 H2 T2 L2 B2 HM2 x0 x1 x2 xf
  go_wp2_with fail
  go_region_held3 (fun w' => w'.cell? ⟨w.heap.size, 0, none⟩ = some (.bool yg) ∧ w'.cell? ⟨w.heap.size, 1, none⟩ = some (.slice A1 m1 c1') ∧ w'.cell? ⟨w.heap.size, 2, none⟩ = some (.int .i64 yE) ∧ w'.cell? ⟨w.heap.size + 1, 0, none⟩ = some (.bool xg) ∧ w'.cell? ⟨w.heap.size + 1, 1, none⟩ = some (.slice A3 m3 c3) ∧ w'.cell? ⟨w.heap.size + 1, 2, none⟩ = some (.int .i64 xE))
    (first | with_reducible exact K0.out | with_reducible exact K1.out | with_reducible exact K2.out) (fail)
  go_wp2_with fail
  exact bodyPost_ret (v := .tuple #[.agg #[.bool yg, .slice A1 m1 c1', .int .i64 yE], .agg #[.bool xg, .slice A3 m3 c3, .int .i64 xE], .bool true]) (by simp [results, Tryd.results11, go_sem, q0, q1, q2, r0, r1, r2]) rfl Hfin.out
end Go.Proofs.YtgacafdkhailmaaDoor

/- The walk of next.Break. -/
namespace Go.Proofs.YtgacafdkhailmaaDoor
open Go.RowKit

/-- A dyad in its box b, and its list. -/
def HoldD (w : World) (b : Nat) (g : Bool) (A : Option Addr) (n c : Nat) (xs : List Nat) (e0 : Int) (u : World) : Prop :=
  Bd u b 28 g A n c e0 ∧ Lim u A n c xs ∧ Tab u ∧ Below w.heap.size w u
abbrev CellsD (w : World) (b : Nat) (g : Bool) (A : Option Addr) (n c : Nat) (xs : List Nat) (e0 : Int) (w' : World) : Prop :=
  w'.cell? ⟨b, 0, none⟩ = some (.bool g) ∧ w'.cell? ⟨b, 1, none⟩ = some (.slice A n c) ∧ w'.cell? ⟨b, 2, none⟩ = some (.int .i64 e0) ∧ Hid (HoldD w b g A n c xs e0 w')
section
variable {w : World} {b : Nat} {g : Bool} {A : Option Addr} {n c : Nat} {xs : List Nat} {e0 : Int} {u u' : World}
theorem HoldD.below (h : HoldD w b g A n c xs e0 u) (hb : Below u.heap.size u u') : HoldD w b g A n c xs e0 u' := ⟨h.1.below hb, h.2.1.below hb, h.2.2.1.below hb, h.2.2.2.trans (hb.mono h.2.2.2.size)⟩
theorem HoldD.cells (h : HoldD w b g A n c xs e0 u) : CellsD w b g A n c xs e0 u := ⟨h.1.c0, h.1.c1, h.1.c2, h⟩
end

set_option maxHeartbeats 1000000 in
theorem break_l (v : Bool) (g : Bool) (A : Option Addr) (n c : Nat) (xs : List Nat) (e0 : Int) (w : World) (hA : Lim w A n c xs) (hn : n ≤ 4294967296) (hT : Tab w) (hv : Hid (brkO (mk g (val xs) e0) = v)) :
    Calls Tryd.prog 18 #[.agg #[.bool g, .slice A n c, .int .i64 e0]] w fun e w' => e = .returned (.bool v) ∧ Below w.heap.size w w' := by
  have a3 := below1 w (.cells #[.bool g, .slice A n c, .int .i64 e0] 28)
  have H1 := Lib.hid (dbare_any g A n c xs e0 _ (hA.below a3) hn (hT.below a3))
  have HT := Lib.hid (hT.below a3)
  have Hb := Lib.hid (Bd.new w 28 g A n c e0)
  have HS := Lib.hid a3
  obtain ⟨o, ho⟩ : ∃ o, mk g (val xs) e0 = o := ⟨_, rfl⟩
  rw [ho] at H1
  have hv' := hv.out
  rw [ho] at hv'
  clear a3 hA hT hv
  go_enter Tryd.func18, Tryd.ntmps18
  go_wp2_with fail
  refine H1.out.mono ?_
  rintro e w1 ⟨g1, A1, m1, c1, zs, E1, r1, rfl, hm1, hl1, hb1, his, hB1⟩
  have Hk1 := Lib.hid (Hb.out.below hB1)
  have HS1 := Lib.hid (below_put (HS.out.trans (hB1.mono HS.out.size)) (Nat.le_refl _) g1 A1 m1 c1 E1)
  have x0 := Hk1.out.c0
  have x1 := Hk1.out.c1
  have x2 := Hk1.out.c2
  have xf := Hk1.out.fz
  cases o with
  | none =>
    obtain ⟨rfl, rfl, hz, rfl⟩ := his
    obtain rfl : false = v := hv'
    clear ho H1 HT Hb HS hl1 hb1 hz hB1 Hk1
    go_wp2
    go_ret
    exact ⟨rfl, HS1.out⟩
  | some d =>
    obtain ⟨rfl, hg, hz, hE⟩ := his
    have hfine := (mk_fine ho).1
    obtain ⟨dg, dV, dE⟩ := d
    simp only at hg hz hE
    subst hg hE
    have hfe1 := hfine.1
    have hfe2 := hfine.2.1
    simp only at hfe1 hfe2
    have HK : HoldD w w.heap.size g1 A1 m1 c1 zs E1 _ := ⟨Hk1.out.put g1 A1 m1 c1 E1, Hk1.out.lim hl1 g1 A1 m1 c1 E1, Hk1.out.tab (HT.out.below hB1) g1 A1 m1 c1 E1, HS1.out⟩
    have K1 := Lib.hid HK
    have hbl := hl1.blen_le
    rw [hz] at hbl
    have y0 := K1.out.1.c0
    have y1 := K1.out.1.c1
    have y2 := K1.out.1.c2
    clear ho H1 HT Hb HS HS1 hl1 hb1 hB1 Hk1 HK hfine
    unfold brkO at hv'
    simp only at hv'
    by_cases h0 : dV = 0
    · rw [if_pos h0] at hv'
      subst hv'
      have H2 := Lib.hid (top_zero g1 A1 m1 c1 zs E1 _ K1.out.2.1 (by omega) (hz.trans h0))
      clear h0 hz hbl hfe1 hfe2
      go_wp2_with fail
      refine H2.out.mono ?_
      rintro e w2 ⟨rfl, hB2⟩
      have Hfin := Lib.hid (K1.out.below hB2).2.2.2
      clear hB2 H2 K1
      go_wp2
      go_ret
      exact ⟨rfl, Hfin.out⟩
    · rw [if_neg h0] at hv'
      obtain ⟨T, hT⟩ : ∃ T, rtop dV E1 = T := ⟨_, rfl⟩
      have hT' := hT
      unfold rtop at hT'
      have hB := blen_pos h0
      have H2 := Lib.hid (top_l T g1 A1 m1 c1 zs E1 _ K1.out.2.1 (by omega) (by rw [hz]; exact h0) (by show topD _ _ = T; rw [hz, topD, held_id hfe1 hfe2]; exact hT'))
      have hT1 : -1073741824 ≤ T := by omega
      have hT2 : T ≤ 300000000000 := by omega
      rw [hT] at hv'
      by_cases q1 : 1024 ≤ T
      · rw [if_pos q1] at hv'
        have b1 : decide ((1024 : Int) ≤ T) = true := decide_eq_true q1
        by_cases q2 : T = 1024
        · have b2 : (T == 1024) = true := beq_yes q2
          obtain ⟨p, hp⟩ : ∃ p, (E1 == 1024) = p := ⟨_, rfl⟩
          obtain rfl : p = v := by
            rw [← hv', ← hp, q2]
            by_cases h : E1 = 1024
            · rw [beq_yes h, decide_eq_true ⟨rfl, h⟩]
            · rw [beq_no h, decide_eq_false (fun k => h k.2)]
          clear hv' hT hT' q1 q2 h0 hz hbl hB
          go_wp2_with fail
          refine H2.out.mono ?_
          rintro e w2 ⟨rfl, hB2⟩
          have K2 := K1.out.below hB2
          have Hfin := Lib.hid K2.2.2.2
          have z2 := K2.1.c2
          clear hB2 H2 K1 K2
          go_wp2
          go_ret
          exact ⟨rfl, Hfin.out⟩
        · have b2 : (T == 1024) = false := beq_no q2
          obtain rfl : false = v := by rw [← hv']; exact (decide_eq_false (fun k => q2 k.1)).symm
          clear hv' hT hT' q1 q2 h0 hz hbl hB
          go_wp2_with fail
          refine H2.out.mono ?_
          rintro e w2 ⟨rfl, hB2⟩
          have K2 := K1.out.below hB2
          have Hfin := Lib.hid K2.2.2.2
          have z2 := K2.1.c2
          clear hB2 H2 K1 K2
          go_wp2
          go_ret
          exact ⟨rfl, Hfin.out⟩
      · rw [if_neg q1] at hv'
        have b1 : decide ((1024 : Int) ≤ T) = false := decide_eq_false q1
        obtain ⟨u, hu⟩ : ∃ u, ru dV E1 = u := ⟨_, rfl⟩
        have hu' := hu
        unfold ru at hu'
        have hu1 : -1074 ≤ u := by omega
        have hu2 : u ≤ 2000 := by omega
        rw [hu] at hv'
        have HU : Hid (∀ s, CellsD w w.heap.size g1 A1 m1 c1 zs E1 s → Calls Tryd.prog 33 #[.agg #[.bool g1, .slice A1 m1 c1, .int .i64 E1]] s fun e w' => e = .returned (.int .i64 u) ∧ CellsD w w.heap.size g1 A1 m1 c1 zs E1 w') := fun s hs => by
          have h := hs.2.2.2.out
          refine (unit_l u g1 A1 m1 c1 zs E1 s h.2.1 (by omega) ?_).mono ?_
          · show duni (val zs) E1 = u
            rw [hz, duni, if_neg h0, topD, held_id hfe1 hfe2]
            exact hu'
          · rintro e w' ⟨rfl, hb'⟩
            exact ⟨rfl, (h.below hb').cells⟩
        have Hv : Hid (decide (IntKind.i64.wrap (u - 1) ≤ E1) = v) := by rw [show IntKind.i64.wrap (u - 1) = u - 1 from by rw [IntKind.wrap_i64]; omega]; exact hv'
        clear hv' hT hT' hu' hu q1 h0 hz hbl hB
        go_wp2_with fail
        refine H2.out.mono ?_
        rintro e w2 ⟨rfl, hB2⟩
        have K2 := K1.out.below hB2
        have K3 := Lib.hid (K2.below (below_drew _)).cells
        clear hB2 H2 K1 K2
        go_wp2_with fail
        go_region_held3 (fun w' => w'.cell? ⟨w.heap.size, 0, none⟩ = some (.bool g1) ∧ w'.cell? ⟨w.heap.size, 1, none⟩ = some (.slice A1 m1 c1) ∧ w'.cell? ⟨w.heap.size, 2, none⟩ = some (.int .i64 E1) ∧ Hid (HoldD w w.heap.size g1 A1 m1 c1 zs E1 w'))
          (first | (with_reducible exact K3.out) | (with_reducible assumption))
          (first | (go_at_call 33; (with_reducible refine (HU.out _ (by first | (with_reducible exact K3.out) | (with_reducible assumption))).mono ?_); rintro e w3 ⟨rfl, hY⟩))
        all_goals (
          have Hfin := Lib.hid hY.2.2.2.out.2.2.2
          clear hY HU K3
          go_wp2_with fail
          go_ret
          exact ⟨congrArg (fun v => Ending.returned (.bool v)) Hv.out, Hfin.out⟩)
end Go.Proofs.YtgacafdkhailmaaDoor

/- The walk of next.floor. -/
namespace Go.Proofs.YtgacafdkhailmaaDoor
open Go.RowKit

/-- Of 0. -/
theorem floor_zero (g : Bool) (A : Option Addr) (n c : Nat) (xs : List Nat) (w : World) (hA : Lim w A n c xs) (hn : n ≤ 4294967296) (hT : Tab w) (h0 : val xs = 0) :
    Calls Tryd.prog 42 #[.agg #[.bool g, .slice A n c, .int .i64 0]] w fun e w' => e = .returned (.tuple #[.int .u64 0, .bool true]) ∧ Below w.heap.size w w' := by
  have a1 := below1 w (.cells #[.bool false, .slice A n c, .int .i64 0] 28)
  have K0 : HoldD w w.heap.size false A n c xs 0 _ := ⟨Bd.new w 28 false A n c 0, hA.below a1, hT.below a1, a1⟩
  have HK := Lib.hid K0
  have H1 := Lib.hid (unit_l (-1074) false A n c xs 0 _ K0.2.1 hn (by show duni _ _ = _; unfold duni; rw [if_pos h0]))
  have HE : Hid (exD (nO false (val xs) 0) = (0, true)) := by show _ = _; rw [h0, nO_zero]; rfl
  clear a1 K0 hA hT h0
  go_enter Tryd.func42, Tryd.ntmps42
  go_wp2_with fail
  refine H1.out.mono ?_
  rintro e w1 ⟨rfl, hb⟩
  have K1 := HK.out.below hb
  have H2 := Lib.hid (exact_l 0 true false A n c xs 0 w1 K1.2.1 hn K1.2.2.1 HE)
  have HK1 := Lib.hid K1
  have x0 := K1.1.c0
  have x1 := K1.1.c1
  have x2 := K1.1.c2
  clear hb K1 HK H1
  go_wp2_with fail
  refine H2.out.mono ?_
  rintro e w2 ⟨rfl, hb⟩
  have Hfin := Lib.hid (HK1.out.below hb).2.2.2
  clear hb HK1 H2 x0 x1 x2
  go_wp2
  go_ret2
  exact ⟨rfl, Hfin.out⟩

set_option maxHeartbeats 1000000 in
theorem floor_l (X : Nat) (ok : Bool) (g : Bool) (A : Option Addr) (n c : Nat) (xs : List Nat) (e0 : Int) (w : World) (hA : Lim w A n c xs) (hn : n ≤ 4294967296) (hT : Tab w) (h0 : val xs ≠ 0) (h1 : -1073741824 ≤ e0) (h2 : e0 ≤ 1073741824) (ht : rtop (val xs) e0 ≤ 1023)
    (hX : Hid (rX (val xs) e0 = X)) (hok : Hid (jst (val xs) e0 (ru (val xs) e0) = ok)) :
    Calls Tryd.prog 42 #[.agg #[.bool g, .slice A n c, .int .i64 e0]] w fun e w' => e = .returned (.tuple #[.int .u64 (X : Int), .bool ok]) ∧ Below w.heap.size w w' := by
  have a1 := below1 w (.cells #[.bool false, .slice A n c, .int .i64 e0] 28)
  have K0 : HoldD w w.heap.size false A n c xs e0 _ := ⟨Bd.new w 28 false A n c e0, hA.below a1, hT.below a1, a1⟩
  have HK := Lib.hid K0
  have hp := low_parts h0 h1 h2 ht
  rw [hX.out] at hp
  have hB := blen_pos h0
  obtain ⟨u, hu⟩ : ∃ u, ru (val xs) e0 = u := ⟨_, rfl⟩
  have hu' : max ((blen (val xs) : Int) - 1 + e0 - 52) (-1074) = u := hu
  have ht' : (blen (val xs) : Int) - 1 + e0 ≤ 1023 := ht
  have hu1 : -1074 ≤ u := by omega
  have hu2 : u ≤ 2000 := by omega
  have H1 := Lib.hid (unit_l u false A n c xs e0 _ K0.2.1 hn (by show duni _ _ = _; rw [duni, if_neg h0, topD, held_id h1 h2]; exact hu'))
  rw [hu] at hp
  have hok' := hok.out
  rw [hu] at hok'
  unfold jst at hok'
  unfold rU at hp
  by_cases hc : u ≤ e0
  · rw [if_pos hc] at hok' hp
    subst hok'
    obtain ⟨k, hk⟩ : ∃ k : Nat, (e0 - u).toNat = k := ⟨_, rfl⟩
    rw [hk, nO_shift false (by omega) (by omega) h0, show u + (k : Int) = e0 by omega] at hp
    have HE := Lib.hid hp
    have b1 : decide (u ≤ e0) = true := decide_eq_true hc
    clear a1 K0 hA hT h0 hp hB hu hu' ht ht' hX hok hc hk
    go_enter Tryd.func42, Tryd.ntmps42
    go_wp2_with fail
    refine H1.out.mono ?_
    rintro e w1 ⟨rfl, hb⟩
    have K1 := HK.out.below hb
    have H2 := Lib.hid (exact_l X true false A n c xs e0 w1 K1.2.1 hn K1.2.2.1 HE)
    have HK1 := Lib.hid K1
    have x0 := K1.1.c0
    have x1 := K1.1.c1
    have x2 := K1.1.c2
    clear hb K1 HK H1
    go_wp2_with fail
    refine H2.out.mono ?_
    rintro e w2 ⟨rfl, hb⟩
    have Hfin := Lib.hid (HK1.out.below hb).2.2.2
    clear hb HK1 H2 x0 x1 x2
    go_wp2
    go_ret2
    exact ⟨rfl, Hfin.out⟩
  · rw [if_neg hc] at hok' hp
    obtain ⟨N, hN⟩ : ∃ N : Nat, (u - e0).toNat = N := ⟨_, rfl⟩
    rw [hN] at hok'
    rw [Nat.div_div_eq_div_mul, ← Nat.pow_succ, show (u - e0 - 1).toNat.succ = N by omega] at hp
    have eN : u - e0 = (N : Int) := by omega
    have hN9 : N ≤ 9223372036854775807 := by omega
    obtain ⟨U, hU⟩ : ∃ U, val xs / 2 ^ N = U := ⟨_, rfl⟩
    rw [hU] at hp
    obtain ⟨d, hd⟩ : ∃ d, mk false U u = some d := by
      cases hm : mk false U u with
      | some d => exact ⟨d, rfl⟩
      | none => rw [mk_none hm] at hp; cases (Prod.mk.inj hp).2
    have hE : exD (nO d.neg d.V d.e) = (X, true) := by rw [mk_is (mk_self hd), ← mk_is hd]; exact hp
    have HE := Lib.hid hE
    have Hd := Lib.hid hd
    have HU := Lib.hid hU
    have Hok : Hid ((!decide (val xs % 2 ^ N ≠ 0)) = ok) := by
      show (!decide (val xs % 2 ^ N ≠ 0)) = ok
      rw [← hok']
      by_cases hz : val xs % 2 ^ N = 0
      · rw [decide_eq_false (show ¬ val xs % 2 ^ N ≠ 0 from fun h => h hz), decide_eq_true hz]; rfl
      · rw [decide_eq_true hz, decide_eq_false hz]; rfl
    obtain ⟨bb, hbb⟩ : ∃ bb, decide (val xs % 2 ^ N ≠ 0) = bb := ⟨_, rfl⟩
    rw [hbb] at Hok
    have Hbb := Lib.hid hbb
    obtain ⟨dg, dV, dE⟩ := d
    simp only at HE
    have b1 : decide (u ≤ e0) = false := decide_eq_false hc
    clear a1 K0 hA hT h0 hp hB hu hu' ht ht' hX hok hc hN hU hd hE hok' hbb
    go_enter Tryd.func42, Tryd.ntmps42
    go_wp2_with fail
    refine H1.out.mono ?_
    rintro e w1 ⟨rfl, hb⟩
    have K1 := HK.out.below hb
    have H2 := shr_l N A n c xs w1 K1.2.1 (by omega) K1.2.2.1 hN9 bb Hbb
    rw [HU.out] at H2
    have H2 := Lib.hid H2
    have HK1 := Lib.hid K1
    have x0 := K1.1.c0
    have x1 := K1.1.c1
    have x2 := K1.1.c2
    clear hb K1 HK H1 HU Hbb
    go_wp2_with fail
    refine H2.out.mono ?_
    rintro e w2 ⟨A2, m2, c2, us, rfl, hm2, hl2, hb2, hv2, hB2⟩
    have K2 := HK1.out.below hB2
    have H3 := make_any false A2 m2 c2 us u w2 hl2 (by omega) K2.2.2.1
    rw [hv2, Hd.out] at H3
    have H3 := Lib.hid H3
    have HK2 := Lib.hid K2
    clear hl2 hb2 hv2 hB2 K2 H2 HK1 Hd x0 x1 x2
    go_wp2_with fail
    refine H3.out.mono ?_
    rintro e w3 ⟨g3, A3, m3, c3, ts, E3, r3, rfl, hm3, hl3, hb3, ⟨rfl, rfl, hz3, rfl⟩, hB3⟩
    have a4 := below1 w3 (.cells #[.bool g3, .slice A3 m3 c3, .int .i64 E3] 28)
    have K3 := (HK2.out.below hB3).below a4
    have H4 := Lib.hid (exact_l X true g3 A3 m3 c3 ts E3 _ (hl3.below a4) (by omega) K3.2.2.1 (by show exD (nO g3 (val ts) E3) = _; rw [hz3]; exact HE.out))
    have HK3 := Lib.hid K3
    clear hl3 hb3 hB3 K3 H3 HK2 HE a4
    go_wp2_with fail
    refine H4.out.mono ?_
    rintro e w4 ⟨rfl, hb⟩
    have Hfin := Lib.hid (HK3.out.below hb).2.2.2
    clear hb HK3 H4
    go_wp2
    go_ret2
    exact ⟨by rw [← Hok.out]; rfl, Hfin.out⟩
end Go.Proofs.YtgacafdkhailmaaDoor

/- The walk of next.Between. -/
namespace Go.Proofs.YtgacafdkhailmaaDoor
open Go.RowKit

set_option maxHeartbeats 1000000 in
theorem between_l (X Y : Nat) (ok : Bool) (g : Bool) (A : Option Addr) (n c : Nat) (xs : List Nat) (e0 : Int) (w : World) (hA : Lim w A n c xs) (hn : n ≤ 4294967296) (hT : Tab w) (hv : Hid (btwO (mk g (val xs) e0) = (X, Y, ok))) :
    Calls Tryd.prog 17 #[.agg #[.bool g, .slice A n c, .int .i64 e0]] w fun e w' => e = .returned (.tuple #[.int .u64 (X : Int), .int .u64 (Y : Int), .bool ok]) ∧ Below w.heap.size w w' := by
  have a3 := below1 w (.cells #[.bool g, .slice A n c, .int .i64 e0] 28)
  have H1 := Lib.hid (dbare_any g A n c xs e0 _ (hA.below a3) hn (hT.below a3))
  have HT := Lib.hid (hT.below a3)
  have Hb := Lib.hid (Bd.new w 28 g A n c e0)
  have HS := Lib.hid a3
  obtain ⟨o, ho⟩ : ∃ o, mk g (val xs) e0 = o := ⟨_, rfl⟩
  rw [ho] at H1
  have hv' := hv.out
  rw [ho] at hv'
  clear a3 hA hT hv
  go_enter Tryd.func17, Tryd.ntmps17
  go_wp2_with fail
  refine H1.out.mono ?_
  rintro e w1 ⟨g1, A1, m1, c1, zs, E1, r1, rfl, hm1, hl1, hb1, his, hB1⟩
  have Hk1 := Lib.hid (Hb.out.below hB1)
  have HS1 := Lib.hid (below_put (HS.out.trans (hB1.mono HS.out.size)) (Nat.le_refl _) g1 A1 m1 c1 E1)
  have x0 := Hk1.out.c0
  have x1 := Hk1.out.c1
  have x2 := Hk1.out.c2
  have xf := Hk1.out.fz
  cases o with
  | none =>
    obtain ⟨rfl, rfl, hz, rfl⟩ := his
    have hv2 : ((0 : Nat), (0 : Nat), false) = (X, Y, ok) := hv'
    simp only [Prod.mk.injEq] at hv2
    obtain ⟨rfl, rfl, rfl⟩ := hv2
    clear hv' ho H1 HT Hb HS hl1 hb1 hz hB1 Hk1
    go_wp2
    go_ret3
    exact ⟨rfl, HS1.out⟩
  | some d =>
    obtain ⟨rfl, hg, hz, hE⟩ := his
    have hfine := (mk_fine ho).1
    obtain ⟨dg, dV, dE⟩ := d
    simp only at hg hz hE
    subst hg hE
    have hfe1 := hfine.1
    have hfe2 := hfine.2.1
    have hfe3 := hfine.2.2
    simp only at hfe1 hfe2 hfe3
    have HK : HoldD w w.heap.size g1 A1 m1 c1 zs E1 _ := ⟨Hk1.out.put g1 A1 m1 c1 E1, Hk1.out.lim hl1 g1 A1 m1 c1 E1, Hk1.out.tab (HT.out.below hB1) g1 A1 m1 c1 E1, HS1.out⟩
    have K1 := Lib.hid HK
    have hbl := hl1.blen_le
    rw [hz] at hbl
    have y0 := K1.out.1.c0
    have y1 := K1.out.1.c1
    have y2 := K1.out.1.c2
    clear ho H1 HT Hb HS HS1 hl1 hb1 hB1 Hk1 HK hfine
    unfold btwO at hv'
    simp only at hv'
    by_cases h0 : dV = 0
    · rw [if_pos h0] at hv'
      simp only [Prod.mk.injEq] at hv'
      obtain ⟨rfl, rfl, rfl⟩ := hv'
      have H2 := Lib.hid (top_zero g1 A1 m1 c1 zs E1 _ K1.out.2.1 (by omega) (hz.trans h0))
      obtain ⟨rfl, rfl⟩ := hfe3 h0
      have Hz := Lib.hid (hz.trans h0)
      clear h0 hz hbl hfe1 hfe2 hfe3
      go_wp2_with fail
      refine H2.out.mono ?_
      rintro e w2 ⟨rfl, hB2⟩
      have K2 := K1.out.below hB2
      have H3 := Lib.hid (floor_zero false A1 m1 c1 zs w2 K2.2.1 (by omega) K2.2.2.1 Hz.out)
      have HK2 := Lib.hid K2
      have z0 := K2.1.c0
      have z1 := K2.1.c1
      have z2 := K2.1.c2
      clear hB2 H2 K1 K2 x0 x1 x2 xf y0 y1 y2
      go_wp2_with fail
      refine H3.out.mono ?_
      rintro e w3 ⟨rfl, hB3⟩
      have Hfin := Lib.hid (HK2.out.below hB3).2.2.2
      clear hB3 H3 HK2 z0 z1 z2
      go_wp2
      go_ret3
      exact ⟨rfl, Hfin.out⟩
    · rw [if_neg h0] at hv'
      obtain ⟨T, hT⟩ : ∃ T, rtop dV E1 = T := ⟨_, rfl⟩
      have hT' := hT
      unfold rtop at hT'
      have hB := blen_pos h0
      have H2 := Lib.hid (top_l T g1 A1 m1 c1 zs E1 _ K1.out.2.1 (by omega) (by rw [hz]; exact h0) (by show topD _ _ = T; rw [hz, topD, held_id hfe1 hfe2]; exact hT'))
      have hT1 : -1073741824 ≤ T := by omega
      have hT2 : T ≤ 300000000000 := by omega
      rw [hT] at hv'
      by_cases q1 : 1024 ≤ T
      · rw [if_pos q1] at hv'
        simp only [Prod.mk.injEq] at hv'
        obtain ⟨rfl, rfl, rfl⟩ := hv'
        have b1 : decide ((1024 : Int) ≤ T) = true := decide_eq_true q1
        clear hT hT' q1 h0 hz hbl hB hfe3
        go_wp2_with fail
        refine H2.out.mono ?_
        rintro e w2 ⟨rfl, hB2⟩
        have Hfin := Lib.hid (K1.out.below hB2).2.2.2
        clear hB2 H2 K1
        go_wp2
        go_ret3
        exact ⟨rfl, Hfin.out⟩
      · rw [if_neg q1] at hv'
        have b1 : decide ((1024 : Int) ≤ T) = false := decide_eq_false q1
        simp only [Prod.mk.injEq] at hv'
        obtain ⟨hX, hY, rfl⟩ := hv'
        obtain ⟨j, hj⟩ : ∃ j, jst dV E1 (ru dV E1) = j := ⟨_, rfl⟩
        rw [hX, hj] at hY
        have hXb : X < 9218868437227405312 := by
          rw [← hX]
          exact (rnd_low h0 hfe1 hfe2 (by omega)).1
        have HF : Hid (∀ s, HoldD w w.heap.size g1 A1 m1 c1 zs E1 s → Calls Tryd.prog 42 #[.agg #[.bool g1, .slice A1 m1 c1, .int .i64 E1]] s fun e w' => e = .returned (.tuple #[.int .u64 (X : Int), .bool j]) ∧ Below s.heap.size s w') := fun s hs =>
          floor_l X j g1 A1 m1 c1 zs E1 s hs.2.1 (by omega) hs.2.2.1 (by rw [hz]; exact h0) hfe1 hfe2 (by rw [hz]; omega) (by show rX _ _ = X; rw [hz]; exact hX) (by show jst _ _ _ = j; rw [hz]; exact hj)
        clear hT hT' q1 h0 hz hbl hB hfe3 hX hj
        cases j with
        | true =>
          obtain rfl : X = Y := hY
          go_wp2_with fail
          refine H2.out.mono ?_
          rintro e w2 ⟨rfl, hB2⟩
          have K2 := K1.out.below hB2
          have H3 := Lib.hid (HF.out w2 K2)
          have HK2 := Lib.hid K2
          have z0 := K2.1.c0
          have z1 := K2.1.c1
          have z2 := K2.1.c2
          clear hB2 H2 K1 K2 x0 x1 x2 xf y0 y1 y2 HF
          go_wp2_with fail
          refine H3.out.mono ?_
          rintro e w3 ⟨rfl, hB3⟩
          have Hfin := Lib.hid (HK2.out.below hB3).2.2.2
          clear hB3 H3 HK2 z0 z1 z2
          go_wp2
          go_ret3
          exact ⟨rfl, Hfin.out⟩
        | false =>
          have hY2 : X + 1 = Y := hY
          have eY : (X : Int) + 1 = (Y : Int) := by omega
          have hYb : Y < 18446744073709551616 := by omega
          clear hY hY2
          go_wp2_with fail
          refine H2.out.mono ?_
          rintro e w2 ⟨rfl, hB2⟩
          have K2 := K1.out.below hB2
          have H3 := Lib.hid (HF.out w2 K2)
          have HK2 := Lib.hid K2
          have z0 := K2.1.c0
          have z1 := K2.1.c1
          have z2 := K2.1.c2
          clear hB2 H2 K1 K2 x0 x1 x2 xf y0 y1 y2 HF
          go_wp2_with fail
          refine H3.out.mono ?_
          rintro e w3 ⟨rfl, hB3⟩
          have Hfin := Lib.hid (HK2.out.below hB3).2.2.2
          clear hB3 H3 HK2 z0 z1 z2
          go_wp2
          go_ret3
          exact ⟨rfl, Hfin.out⟩
end Go.Proofs.YtgacafdkhailmaaDoor

/- What the laws of layer 8 rest on: numbers alone; planimeterlaw08.alive. -/
namespace Go.Proofs.YtgacafdkhailmaaDoor
open Go.RowKit

theorem mid_break {b : Nat} (hf : Fnt b) : brkO (mk (fng b) (2 * fm b + 1) (fe b - 1)) = true := by
  have hbd := fe_bd hf
  rw [mid_mk hf]
  exact (brk_low (m := fm b) rfl (by omega) (by omega) (mid_low hf)).2 (Or.inr ⟨fin_lt hf, Or.inr (mid_size hf)⟩)
theorem mid_between {b x : Nat} (hf : Fnt b) (hx : b % 9223372036854775808 = x) : btwO (mk (fng b) (2 * fm b + 1) (fe b - 1)) = (x, x + 1, true) := by
  have hbd := fe_bd hf
  have hl := fin_lt hf
  have h1 := mid_size hf
  have h2 := vX_lt hl
  have h3 := mid_low hf
  rw [hx] at h1 h2 h3 hl
  rw [mid_mk hf, midD, btw_low (by omega) (by omega) (by omega) h3, if_neg (by omega)]
theorem num_break {b : Nat} (hf : Fnt b) : brkO (mk (fO b).neg (fO b).V (fO b).e) = true := by
  have hs := mk_self (mk_fin hf)
  rw [hs]
  have hfine := (mk_fine hs).1
  have hl := fin_lt hf
  have h2 := vX_lt hl
  have hz := fO_size hf
  rcases nO_odd (fng b) (fm b) (fe b) with ⟨m, hm⟩ | h
  · have hm' : (fO b).V = 2 * m + 1 := hm
    have h3 : IsLow (sz (fO b).V (fO b).e) (b % 9223372036854775808) := ⟨by omega, by omega, fun _ => by omega⟩
    exact (brk_low (g := (fO b).neg) hm' hfine.1 hfine.2.1 h3).2 (Or.inr ⟨hl, Or.inl hz⟩)
  · have h' : fO b = ⟨false, 0, 0⟩ := h
    rw [h']; rfl
/-- A little beside a middle. -/
theorem tiny_mk : mk false 1 (-1100) = some ⟨false, 1, -1100⟩ := mk_odd (m := 0) rfl (by decide) (by decide)
theorem tiny_break {b : Nat} (hf : Fnt b) : ∃ d, addO (mk (fng b) (2 * fm b + 1) (fe b - 1)) (mk false 1 (-1100)) = some d ∧ brkO (mk d.neg d.V d.e) = false := by
  have hbd := fe_bd hf
  rw [mid_mk hf, tiny_mk]
  obtain ⟨k, hk⟩ : ∃ k : Nat, (fe b - 1 - -1100).toNat = k + 1 := ⟨(fe b - 1 - -1100).toNat - 1, by omega⟩
  have hm := (f_parts b).2.1
  have hB : blen (2 * fm b + 1) ≤ 54 := blen_le_iff.2 (show 2 * fm b + 1 < 18014398509481984 by omega)
  obtain ⟨y, hy⟩ : ∃ y, (2 * fm b + 1) * 2 ^ k = y := ⟨_, rfl⟩
  have hy0 : 0 < y := by rw [← hy]; exact Nat.mul_pos (by omega) (Nat.two_pow_pos _)
  have hx : (midD b).V * 2 ^ ((midD b).e - (-1100)).toNat = 2 * y := by
    show (2 * fm b + 1) * 2 ^ (fe b - 1 - -1100).toNat = 2 * y
    rw [hk, Nat.pow_succ, ← Nat.mul_assoc, hy, Nat.mul_comm]
  have h := addB_near (a := midD b) (b := ⟨false, 1, -1100⟩) (lo := -1100) (x := 2 * y) (y := 1) (by show 2 * fm b + 1 ≠ 0; omega) (by show (1 : Nat) ≠ 0; decide) (by show min (fe b - 1) (-1100) = -1100; omega) hx (by show 1 * 2 ^ ((-1100 : Int) - -1100).toNat = 1; decide) (by
    show max ((blen (2 * fm b + 1) : Int) - 1 + (fe b - 1)) ((blen 1 : Int) - 1 + -1100) - -1100 ≤ 65535
    rw [show blen 1 = 1 from by decide]
    omega)
  have hbrk : ∀ (g : Bool) (V m : Nat), V = 2 * m + 1 → brkO (mk g V (-1100)) = false := fun g V m hV => by
    rw [mk_odd hV (by decide) (by decide)]
    have h0 : V ≠ 0 := by omega
    unfold brkO
    simp only
    rw [if_neg h0]
    have hr : ¬ ru V (-1100) - 1 ≤ -1100 := by unfold ru; omega
    split
    · exact decide_eq_false (fun h => by omega)
    · exact decide_eq_false hr
  show ∃ d, addB (midD b) ⟨false, 1, -1100⟩ = some d ∧ _
  rw [h]
  by_cases hg : (midD b).neg = false
  · rw [if_pos hg]
    refine ⟨_, mk_odd (m := y) rfl (by decide) (by decide), ?_⟩
    exact hbrk _ _ y rfl
  · rw [if_neg hg, if_neg (show ¬ 2 * y < 1 by omega)]
    refine ⟨_, mk_odd (m := y - 1) (by omega) (by decide) (by decide), ?_⟩
    exact hbrk (midD b).neg (2 * y - 1) (y - 1) (by omega)

theorem vX_zero : vX 0 = 0 := by unfold vX; rw [show fm 0 = 0 from by decide, Nat.zero_mul]
theorem fO_dw {b : Nat} (hf : Fnt b) : dw (fO b).neg (fO b).V (fO b).e = if fng b then -(vX (b % 9223372036854775808) : Int) else (vX (b % 9223372036854775808) : Int) := by
  have hs := fO_size hf
  by_cases h0 : fm b = 0
  · rw [fO_zero h0, (fm_zero_iff b).1 h0, vX_zero]
    show dw false 0 0 = _
    rw [dw_zero]
    split <;> rfl
  · obtain ⟨k1, _, _⟩ := fO_pos hf h0
    unfold dw
    rw [hs, k1]
/-- The next greater one is greater, and back. -/
theorem up_back {b u : Nat} (hb : b < 18446744073709551616) (hf : Fnt b) (hu : nupX b = u) (hfu : Fnt u) : (ndnX u = b ∨ fm b = 0) ∧ cmpI (dw (fO b).neg (fO b).V (fO b).e) (dw (fO u).neg (fO u).V (fO u).e) = -1 := by
  have hl := fin_lt hf
  have hlu := fin_lt hfu
  rw [fO_dw hf, fO_dw hfu]
  unfold nupX at hu
  by_cases h0 : fm b = 0
  · rw [if_pos h0] at hu
    refine ⟨Or.inr h0, cmpI_lt ?_⟩
    rw [(fm_zero_iff b).1 h0, vX_zero, ← hu]
    have h1 := vX_lt (X := 0) (by decide)
    rw [vX_zero] at h1
    show (if fng b then -((0 : Nat) : Int) else ((0 : Nat) : Int)) < if fng 1 then _ else (vX (1 % 9223372036854775808) : Int)
    rw [show fng 1 = false from by decide, if_neg (by decide : ¬ false = true), show 1 % 9223372036854775808 = 0 + 1 from by decide]
    split <;> omega
  · rw [if_neg h0] at hu
    have hx0 : b % 9223372036854775808 ≠ 0 := fun h => h0 ((fm_zero_iff b).2 h)
    by_cases hg : 9223372036854775808 ≤ b
    · have e1 : fng b = true := decide_eq_true hg
      rw [e1, if_pos rfl] at hu
      have e2 : fng u = true := decide_eq_true (by omega)
      obtain ⟨x, hx⟩ : ∃ x, u % 9223372036854775808 = x := ⟨_, rfl⟩
      have hbx : b % 9223372036854775808 = x + 1 := by omega
      constructor
      · refine Or.inl ?_
        have f1 : flp u = x := by rw [flp, e2, if_pos rfl]; omega
        have f2 : nupX x = x + 1 := by
          unfold nupX
          by_cases hz : fm x = 0
          · have hz' := (fm_zero_iff x).1 hz
            rw [if_pos hz]; omega
          · rw [if_neg hz, show fng x = false from decide_eq_false (by omega), if_neg (by decide)]
        rw [ndnX, f1, f2, flp, show fng (x + 1) = false from decide_eq_false (by omega), if_neg (by decide)]
        omega
      · rw [e1, e2, if_pos rfl, if_pos rfl, hbx, hx]
        have := vX_lt (X := x) (by omega)
        exact cmpI_lt (by omega)
    · have e1 : fng b = false := decide_eq_false hg
      rw [e1, if_neg (by decide)] at hu
      have e2 : fng u = false := decide_eq_false (by omega)
      have hbx : b % 9223372036854775808 = b := by omega
      have hux : u % 9223372036854775808 = b + 1 := by omega
      constructor
      · refine Or.inl ?_
        have f1 : flp u = b + 1 + 9223372036854775808 := by rw [flp, e2, if_neg (by decide)]; omega
        have f2 : nupX (b + 1 + 9223372036854775808) = b + 9223372036854775808 := by
          unfold nupX
          rw [if_neg (fun h => by have := (fm_zero_iff _).1 h; omega), show fng (b + 1 + 9223372036854775808) = true from decide_eq_true (by omega), if_pos rfl]
          omega
        rw [ndnX, f1, f2, flp, show fng (b + 9223372036854775808) = true from decide_eq_true (by omega), if_pos rfl]
        omega
      · rw [e1, e2, if_neg (by decide), if_neg (by decide), hbx, hux]
        have := vX_lt (X := b) (by omega)
        exact cmpI_lt (by omega)
/-- The middles beside a size, in order. -/
theorem beside_less {x : Nat} (h0 : x ≠ 0) (hl : x < 9218868437227405312) : cmpI (dw (midD (x - 1)).neg (midD (x - 1)).V (midD (x - 1)).e) (dw (midD x).neg (midD x).V (midD x).e) = -1 := by
  have hf1 : Fnt (x - 1) := fin_of_lt (by omega)
  have hf2 : Fnt x := fin_of_lt (by omega)
  have s1 := mid_size hf1
  have s2 := mid_size hf2
  rw [Nat.mod_eq_of_lt (by omega)] at s1 s2
  rw [show x - 1 + 1 = x by omega] at s1
  have v1 := vX_lt (X := x - 1) (by omega)
  have v2 := vX_lt hl
  rw [show x - 1 + 1 = x by omega] at v1
  have e1 : dw (midD (x - 1)).neg (midD (x - 1)).V (midD (x - 1)).e = (sz (2 * fm (x - 1) + 1) (fe (x - 1) - 1) : Int) := by
    show dw (fng (x - 1)) _ _ = _
    rw [show fng (x - 1) = false from decide_eq_false (by omega)]; rfl
  have e2 : dw (midD x).neg (midD x).V (midD x).e = (sz (2 * fm x + 1) (fe x - 1) : Int) := by
    show dw (fng x) _ _ = _
    rw [show fng x = false from decide_eq_false (by omega)]; rfl
  rw [e1, e2]
  exact cmpI_lt (by omega)

theorem one_fin : Fnt 4607182418800017408 := by decide
theorem one_mid : midD 4607182418800017408 = ⟨false, 9007199254740993, -53⟩ := by
  have h1 : fng 4607182418800017408 = false := by decide
  have h2 : 2 * fm 4607182418800017408 + 1 = 9007199254740993 := by decide
  have h3 : fe 4607182418800017408 - 1 = -53 := by decide
  unfold midD
  rw [h1, h2, h3]
theorem one_break : brkO (mk false 9007199254740993 (-53)) = true := by
  have h := mid_break one_fin
  have h1 : fng 4607182418800017408 = false := by decide
  have h2 : 2 * fm 4607182418800017408 + 1 = 9007199254740993 := by decide
  have h3 : fe 4607182418800017408 - 1 = -53 := by decide
  rw [h1, h2, h3] at h
  exact h
theorem one_up : nupX 4607182418800017408 = 4607182418800017409 := by decide
theorem val_single (x : Nat) : val [x] = x := by show x + 18446744073709551616 * 0 = x; omega

set_option maxHeartbeats 1000000 in
theorem nalive_any (w : World) (hT : Tab w) : Calls Tryd.prog 7 #[] w fun e w' => e = .returned (.bool true) ∧ Below w.heap.size w w' := by
  have H1 := mid_yes 4607182418800017408 (by decide) w hT one_fin
  rw [one_mid] at H1
  have H1 := Lib.hid H1
  have HT := Lib.hid hT
  clear hT
  go_enter Tryd.func7, Tryd.ntmps7
  go_wp2_with fail
  refine H1.out.mono ?_
  rintro e w1 ⟨A1, m1, c1, q1, rfl, hm1, hl1, hb1, hv1, hb⟩
  obtain rfl : q1 = [9007199254740993] := bare_eq hl1.words (Words.one (by decide)) hb1 (bare_one (by decide)) (hv1.trans (val_single _).symm)
  obtain rfl : m1 = 1 := hl1.len.symm
  have a1 := below1 w1 (.cells #[.bool false, .slice A1 1 c1, .int .i64 (-53)] 28)
  have Hb1 := Lib.hid (hb.trans (a1.mono hb.size))
  have Hq1 := Lib.hid (hl1.below a1)
  have Hd1 := Lib.hid (Bd.new w1 28 false A1 1 c1 (-53))
  clear hl1 hb1 hv1 hb H1 a1
  go_wp2_with fail
  refine (up_yes 4607182418800017409 4607182418800017408 (by decide) _ one_fin one_up).mono ?_
  rintro e w2 ⟨rfl, rfl⟩
  have x0 := Hd1.out.c0
  have x1 := Hd1.out.c1
  have x2 := Hd1.out.c2
  have a3 := below1 (w1.alloc (.cells #[.bool false, .slice A1 1 c1, .int .i64 (-53)] 28)) (.cells #[.int .u64 9007199254740993] 22)
  have n1 := lim_new1 (w1.alloc (.cells #[.bool false, .slice A1 1 c1, .int .i64 (-53)] 28)) 22 9007199254740993 9007199254740993 rfl (by decide)
  rw [World.size_alloc] at n1
  have H3 := Lib.hid (fsame_yes false A1 1 c1 [9007199254740993] (-53) _ 1 _ (Hq1.out.below a3) n1 (by decide))
  have HB3 := Lib.hid (Hb1.out.trans (a3.mono Hb1.out.size))
  have Hq3 := Lib.hid (Hq1.out.below a3)
  have Hd3 := Lib.hid (Hd1.out.below a3)
  clear a3 n1 Hb1 Hq1 Hd1
  go_wp2_with fail
  refine H3.out.mono ?_
  rintro e w3 ⟨rfl, hb⟩
  have HB4 := Lib.hid (HB3.out.trans (hb.mono HB3.out.size))
  have H4 := Lib.hid (break_l true false A1 1 c1 [9007199254740993] (-53) w3 (Hq3.out.below hb) (by decide) (HT.out.below HB4.out) (by show brkO (mk false (val [9007199254740993]) (-53)) = true; rw [val_single]; exact one_break))
  have Hd4 := Hd3.out.below hb
  have y0 := Hd4.c0
  have y1 := Hd4.c1
  have y2 := Hd4.c2
  clear hb H3 HB3 Hq3 Hd3 Hd4 x0 x1 x2
  go_wp2_with fail
  refine H4.out.mono ?_
  rintro e w4 ⟨rfl, hb⟩
  have Hfin := Lib.hid (HB4.out.trans (hb.mono HB4.out.size))
  clear hb HB4 H4 y0 y1 y2
  go_wp2
  go_ret
  exact ⟨rfl, Hfin.out⟩
end Go.Proofs.YtgacafdkhailmaaDoor

/- The walk of NextBack. -/
namespace Go.Proofs.YtgacafdkhailmaaDoor
open Go.RowKit

/-- Two dyads in their blocks. -/
def HoldD2 (w : World) (p : Nat) (g : Bool) (A : Option Addr) (n c : Nat) (xs : List Nat) (e1 : Int) (q : Nat) (k : Bool) (B : Option Addr) (m d : Nat) (ys : List Nat) (e2 : Int) (u : World) : Prop :=
  HoldD w p g A n c xs e1 u ∧ Bd u q 28 k B m d e2 ∧ Lim u B m d ys
theorem HoldD2.below {w : World} {p : Nat} {g : Bool} {A : Option Addr} {n c : Nat} {xs : List Nat} {e1 : Int} {q : Nat} {k : Bool} {B : Option Addr} {m d : Nat} {ys : List Nat} {e2 : Int} {u u' : World} (h : HoldD2 w p g A n c xs e1 q k B m d ys e2 u) (hb : Below u.heap.size u u') : HoldD2 w p g A n c xs e1 q k B m d ys e2 u' :=
  ⟨h.1.below hb, h.2.1.below hb, h.2.2.below hb⟩
theorem HoldD2.start {w : World} {p : Nat} {g : Bool} {A : Option Addr} {n c : Nat} {xs : List Nat} {e1 : Int} {u : World} (h : HoldD w p g A n c xs e1 u) (k : Bool) (B : Option Addr) (m d : Nat) (ys : List Nat) (e2 : Int) (hl : Lim u B m d ys) : HoldD2 w p g A n c xs e1 u.heap.size k B m d ys e2 (u.alloc (.cells #[.bool k, .slice B m d, .int .i64 e2] 28)) :=
  ⟨h.below (below1 _ _), Bd.new u _ _ _ _ _ _, hl.alloc _⟩

theorem nback_no (b : Nat) (hb : b < 18446744073709551616) (w : World) (hT : Tab w) (hf : ¬ Fnt b) :
    Calls Tryd.prog 5 #[.int .u64 (b : Int)] w fun e w' => e = .returned (.bool true) ∧ Below w.heap.size w w' := by
  have H1 := Lib.hid (nalive_any w hT)
  have HU : Hid (∀ u, Calls Tryd.prog 8 #[.int .u64 (b : Int)] u fun e w' => e = .returned (.tuple #[.int .u64 0, .bool false]) ∧ u = w') := fun u => up_no b hb u hf
  have Hf : Hid (decide (Fnt b) = false) := decide_eq_false hf
  clear hf hT
  go_enter Tryd.func5, Tryd.ntmps5
  go_wp2_with fail
  refine H1.out.mono ?_
  rintro e w1 ⟨rfl, hb1⟩
  have Hfin := Lib.hid hb1
  clear hb1 H1
  go_wp2_with fail
  refine (HU.out _).mono ?_
  rintro e w2 ⟨rfl, rfl⟩
  go_wp2_with fail
  refine (ffin_l false b hb _ Hf).mono ?_
  rintro e w2 ⟨rfl, rfl⟩
  go_wp2
  go_ret
  exact ⟨rfl, Hfin.out⟩

set_option maxRecDepth 20000 in
set_option maxHeartbeats 4000000 in
theorem nback_yes (b : Nat) (hb : b < 18446744073709551616) (w : World) (hT : Tab w) (hf : Fnt b) :
    Calls Tryd.prog 5 #[.int .u64 (b : Int)] w fun e w' => e = .returned (.bool true) ∧ Below w.heap.size w w' := by
  have H1 := Lib.hid (nalive_any w hT)
  have HT := Lib.hid hT
  obtain ⟨u, hu⟩ : ∃ u, nupX b = u := ⟨_, rfl⟩
  have hub : u < 18446744073709551616 := by rw [← hu]; exact nup_lt hb hf
  have HU : Hid (∀ s, Calls Tryd.prog 8 #[.int .u64 (b : Int)] s fun e w' => e = .returned (.tuple #[.int .u64 (u : Int), .bool true]) ∧ s = w') := fun s => up_yes u b hb s hf hu
  have HX : Hid (∀ s, Tab s → Calls Tryd.prog 25 #[.int .u64 (b : Int)] s (FTold s (fO b) 1)) := fun s hs => fdyad_yes b hb s hs hf
  have HM : Hid (∀ s, Tab s → Calls Tryd.prog 10 #[.int .u64 (b : Int)] s (FTold s (midD b) 1)) := fun s hs => mid_yes b hb s hs hf
  obtain ⟨fu, hfu⟩ : ∃ fu, decide (Fnt u) = fu := ⟨_, rfl⟩
  obtain ⟨vb, hvb⟩ : ∃ v, fkd b = v := ⟨_, rfl⟩
  obtain ⟨vu, hvu⟩ : ∃ v, fkd u = v := ⟨_, rfl⟩
  have hcase : (fu = false ∧ ∀ s, Calls Tryd.prog 9 #[.int .u64 (u : Int)] s fun e w' => e = .returned (.tuple #[.int .u64 0, .bool false]) ∧ s = w') ∨
      (fu = true ∧ ∃ d : Nat, d < 18446744073709551616 ∧ (∀ s, Calls Tryd.prog 9 #[.int .u64 (u : Int)] s fun e w' => e = .returned (.tuple #[.int .u64 (d : Int), .bool true]) ∧ s = w') ∧ (d = b ∨ vb = 0) ∧ (∀ s, Tab s → Calls Tryd.prog 25 #[.int .u64 (u : Int)] s (FTold s (fO u) 1)) ∧ cmpI (dw (fO b).neg (fO b).V (fO b).e) (dw (fO u).neg (fO u).V (fO u).e) = -1) := by
    by_cases h : Fnt u
    · refine Or.inr ⟨by rw [← hfu]; exact decide_eq_true h, ndnX u, ?_, fun s => down_yes _ u hub s h rfl, ?_, fun s hs => fdyad_yes u hub s hs h, (up_back hb hf hu h).2⟩
      · unfold ndnX
        obtain ⟨f1, f2, _, _⟩ := flp_facts hub
        exact (flp_facts (nup_lt f1 ((size_same f2).2.2.2.1.2 h))).1
      · rcases (up_back hb hf hu h).1 with h1 | h1
        · exact Or.inl h1
        · exact Or.inr (by rw [← hvb]; exact (fkd_zero b).2 h1)
    · exact Or.inl ⟨by rw [← hfu]; exact decide_eq_false h, fun s => down_no u hub s h⟩
  have Hfu := Lib.hid hfu
  have Hvb := Lib.hid hvb
  have Hvu := Lib.hid hvu
  have Hbx := Lib.hid (num_break hf)
  have Hbm := Lib.hid (mid_break hf)
  obtain ⟨x, hx⟩ : ∃ x, b % 9223372036854775808 = x := ⟨_, rfl⟩
  have Hbt := Lib.hid (mid_between hf hx)
  have hsign := nsign_off b hb
  rw [hx] at hsign
  have hxl := fin_lt hf
  rw [hx] at hxl
  obtain ⟨td, htd1, htd2⟩ := tiny_break hf
  have hmV : 2 * fm b + 1 < 18446744073709551616 := by have := (f_parts b).2.1; omega
  have hmid : midD b = ⟨fng b, 2 * fm b + 1, fe b - 1⟩ := rfl
  rw [hmid] at HM
  generalize fng b = mg at HM Hbm Hbt htd1
  generalize 2 * fm b + 1 = mV at HM Hbm Hbt htd1 hmV
  generalize fe b - 1 = mE at HM Hbm Hbt htd1
  generalize fO b = xd at HX Hbx hcase
  obtain ⟨xg, xV, xE⟩ := xd
  simp only at Hbx hcase
  have Htd1 := Lib.hid htd1
  have Htd2 := Lib.hid htd2
  have Hcase := Lib.hid hcase
  clear hT hf hu hfu hvb hvu hcase hx htd1 htd2 hmid
  go_enter Tryd.func5, Tryd.ntmps5
  go_wp2_with fail
  refine H1.out.mono ?_
  rintro e w1 ⟨rfl, hb1⟩
  have HS1 := Lib.hid hb1
  have HT1 := Lib.hid (HT.out.below hb1)
  clear hb1 H1 HT
  go_wp2_with fail
  refine (HU.out _).mono ?_
  rintro e w2 ⟨rfl, rfl⟩
  go_wp2_with fail
  refine (HX.out _ HT1.out).mono ?_
  rintro e w2 ⟨A1, m1, c1, zs, rfl, hm1, hl1, hb1, hv1, hB1⟩
  have a2 := below1 w2 (.cells #[.bool xg, .slice A1 m1 c1, .int .i64 xE] 28)
  have hk : HoldD w w2.heap.size xg A1 m1 c1 zs xE (w2.alloc (.cells #[.bool xg, .slice A1 m1 c1, .int .i64 xE] 28)) := by
    have s1 := HS1.out.trans (hB1.mono HS1.out.size)
    exact ⟨Bd.new w2 _ _ _ _ _ _, hl1.below a2, (HT1.out.below hB1).below a2, s1.trans (a2.mono s1.size)⟩
  have K2 := Lib.hid hk
  have Hv1 := Lib.hid hv1
  clear hl1 hb1 hv1 hB1 a2 hk HS1 HT1 HU HX
  obtain ⟨dX, dk, hD⟩ : ∃ (dX : Nat) (dk : Bool), (∀ s, Calls Tryd.prog 9 #[.int .u64 (u : Int)] s fun e w' => e = .returned (.tuple #[.int .u64 (dX : Int), .bool dk]) ∧ s = w') ∧ (fu = true → dk = true ∧ dX < 18446744073709551616 ∧ (dX = b ∨ vb = 0) ∧ (∀ s, Tab s → Calls Tryd.prog 25 #[.int .u64 (u : Int)] s (FTold s (fO u) 1)) ∧ cmpI (dw xg xV xE) (dw (fO u).neg (fO u).V (fO u).e) = -1) := by
    rcases Hcase.out with ⟨h1, h2⟩ | ⟨h1, d, h2, h3, h4, h5, h6⟩
    · exact ⟨0, false, h2, fun h => by rw [h1] at h; cases h⟩
    · exact ⟨d, true, h3, fun _ => ⟨rfl, h2, h4, h5, h6⟩⟩
  obtain ⟨hD1, hD2⟩ := hD
  have HD1 := Lib.hid hD1
  have HD2 := Lib.hid hD2
  clear hD1 hD2 Hcase
  go_wp2_with fail
  refine (HD1.out _).mono ?_
  rintro e w3 ⟨rfl, rfl⟩
  go_wp2_with fail
  refine (ffin_l fu u hub _ Hfu).mono ?_
  rintro e w3 ⟨rfl, rfl⟩
  clear HD1 Hfu
  go_upto_if 44 with fail
  go_cut [9, 10, 11] from 21 (fun _ _ _ wx => Hid (HoldD w w2.heap.size xg A1 m1 c1 zs xE wx))
  case first =>
    cases fu with
    | false =>
      clear HD2
      go_wp2_with fail
      go_meet
      exact K2
    | true =>
      obtain ⟨rfl, hdX, hdb, hY, hcmp⟩ := HD2.out rfl
      have HY := Lib.hid hY
      have Hcmp := Lib.hid hcmp
      clear HD2 hY hcmp Hbx Hbm Hbt Htd1 Htd2 HM
      generalize fO u = yd at HY Hcmp
      obtain ⟨yg, yV, yE⟩ := yd
      simp only at Hcmp
      go_wp2_with fail
      refine (HY.out _ K2.out.2.2.1).mono ?_
      rintro e w3 ⟨A3, m3, c3, us, rfl, hm3, hl3, hb3, hv3, hB3⟩
      have a3 := below1 w3 (.cells #[.bool yg, .slice A3 m3 c3, .int .i64 yE] 28)
      have K3 := Lib.hid (HoldD2.start (K2.out.below hB3) yg A3 m3 c3 us yE hl3)
      have HC : Hid (∀ s, HoldD2 w w2.heap.size xg A1 m1 c1 zs xE w3.heap.size yg A3 m3 c3 us yE s → Calls Tryd.prog 27 #[.agg #[.bool xg, .slice A1 m1 c1, .int .i64 xE], .agg #[.bool yg, .slice A3 m3 c3, .int .i64 yE]] s fun e w' => e = .returned (.int .i64 (-1)) ∧ Below s.heap.size s w') := fun s hs =>
        dcmp_l (-1) xg A1 m1 c1 zs xE yg A3 m3 c3 us yE s hs.1.2.1 hs.2.2 (by omega) (by omega) hs.1.2.2.1 (by show cmpI _ _ = _; rw [Hv1.out, hv3]; exact Hcmp.out)
      clear hl3 hb3 hv3 hB3 a3 K2 HY Hcmp Hv1
      have x0 := K3.out.1.1.c0
      have x1 := K3.out.1.1.c1
      have x2 := K3.out.1.1.c2
      have y0 := K3.out.2.1.c0
      have y1 := K3.out.2.1.c1
      have y2 := K3.out.2.1.c2
      by_cases hv0 : vb = 0
      · subst hv0
        by_cases hd : dX = b
        · subst hd
          have c2 : ((dX : Int) != (dX : Int)) = false := bne_no rfl
          clear hdb
          go_wp2_with fail
          refine (fkind_l 0 dX hb _ Hvb).mono ?_
          rintro e w' ⟨rfl, rfl⟩
          go_wp2_with fail
          refine (HC.out _ K3.out).mono ?_
          rintro e w4 ⟨rfl, hb4⟩
          have K4 := Lib.hid (K3.out.below hb4)
          clear hb4 K3 x0 x1 x2 y0 y1 y2
          have x0 := K4.out.1.1.c0
          have x1 := K4.out.1.1.c1
          have x2 := K4.out.1.1.c2
          have y0 := K4.out.2.1.c0
          have y1 := K4.out.2.1.c1
          have y2 := K4.out.2.1.c2
          go_wp2_with fail
          refine (HC.out _ K4.out).mono ?_
          rintro e w5 ⟨rfl, hb5⟩
          have Hfin := Lib.hid (K4.out.below hb5).1
          clear hb5 K4 x0 x1 x2 y0 y1 y2 HC
          go_wp2_with fail
          go_meet
          exact Hfin
        · have c2 : ((dX : Int) != (b : Int)) = true := bne_yes (by omega)
          clear hdb
          go_wp2_with fail
          refine (fkind_l 0 b hb _ Hvb).mono ?_
          rintro e w' ⟨rfl, rfl⟩
          go_wp2_with fail
          refine (HC.out _ K3.out).mono ?_
          rintro e w4 ⟨rfl, hb4⟩
          have K4 := Lib.hid (K3.out.below hb4)
          clear hb4 K3 x0 x1 x2 y0 y1 y2
          have x0 := K4.out.1.1.c0
          have x1 := K4.out.1.1.c1
          have x2 := K4.out.1.1.c2
          have y0 := K4.out.2.1.c0
          have y1 := K4.out.2.1.c1
          have y2 := K4.out.2.1.c2
          go_wp2_with fail
          refine (HC.out _ K4.out).mono ?_
          rintro e w5 ⟨rfl, hb5⟩
          have Hfin := Lib.hid (K4.out.below hb5).1
          clear hb5 K4 x0 x1 x2 y0 y1 y2 HC
          go_wp2_with fail
          go_meet
          exact Hfin
      · obtain rfl : dX = b := by rcases hdb with h | h; exact h; exact absurd h hv0
        have c1' : ((vb : Int) == 0) = false := beq_no (by omega)
        have c2 : ((dX : Int) != (dX : Int)) = false := bne_no rfl
        obtain ⟨nn, hnn⟩ : ∃ nn, ((vu : Int) == 0) = nn := ⟨_, rfl⟩
        clear hdb hv0
        go_wp2_with fail
        refine (fkind_l vb dX hb _ Hvb).mono ?_
        rintro e w' ⟨rfl, rfl⟩
        go_wp2_with fail
        refine (fkind_l vu u hub _ Hvu).mono ?_
        rintro e w' ⟨rfl, rfl⟩
        go_wp2_with fail
        refine (HC.out _ K3.out).mono ?_
        rintro e w4 ⟨rfl, hb4⟩
        have K4 := Lib.hid (K3.out.below hb4)
        clear hb4 K3 x0 x1 x2 y0 y1 y2
        have x0 := K4.out.1.1.c0
        have x1 := K4.out.1.1.c1
        have x2 := K4.out.1.1.c2
        have y0 := K4.out.2.1.c0
        have y1 := K4.out.2.1.c1
        have y2 := K4.out.2.1.c2
        go_wp2_with fail
        refine (HC.out _ K4.out).mono ?_
        rintro e w5 ⟨rfl, hb5⟩
        have Hfin := Lib.hid (K4.out.below hb5).1
        clear hb5 K4 x0 x1 x2 y0 y1 y2 HC
        go_wp2_with fail
        go_meet
        exact Hfin
  case rest =>
    obtain ⟨wA, rfl⟩ : ∃ wA, wA = wc := ⟨_, rfl⟩
    have K3 := hcut
    clear hcut K2 HD2 Hvb Hvu
    go_wp2_with fail
    refine (HM.out _ K3.out.2.2.1).mono ?_
    rintro e w3 ⟨A3, m3, c3, us, rfl, hm3, hl3, hb3, hv3, hB3⟩
    have K4 := Lib.hid (HoldD2.start (K3.out.below hB3) mg A3 m3 c3 us mE hl3)
    have Hv3 := Lib.hid hv3
    clear hl3 hb3 hv3 hB3 K3 HM
    have y0 := K4.out.2.1.c0
    have y1 := K4.out.2.1.c1
    have y2 := K4.out.2.1.c2
    have H5 := Lib.hid (between_l x (x + 1) true mg A3 m3 c3 us mE _ K4.out.2.2 (by omega) K4.out.1.2.2.1 (by show btwO (mk mg (val us) mE) = _; rw [Hv3.out]; exact Hbt.out))
    obtain ⟨x9, hx9⟩ : ∃ x9, x + 1 = x9 := ⟨_, rfl⟩
    have ex9 : (x : Int) + 1 = (x9 : Int) := by omega
    have hx9b : x9 < 18446744073709551616 := by omega
    rw [hx9] at H5
    clear hx9
    go_wp2_with fail
    refine H5.out.mono ?_
    rintro e w5 ⟨rfl, hb5⟩
    have K5 := Lib.hid (K4.out.below hb5)
    clear hb5 K4 y0 y1 y2 H5 Hbt
    have y0 := K5.out.2.1.c0
    have y1 := K5.out.2.1.c1
    have y2 := K5.out.2.1.c2
    have H6 := Lib.hid (break_l true mg A3 m3 c3 us mE _ K5.out.2.2 (by omega) K5.out.1.2.2.1 (by show brkO (mk mg (val us) mE) = _; rw [Hv3.out]; exact Hbm.out))
    have r1 : ((x : Int) != (x : Int)) = false := bne_no rfl
    have r2 : ((x9 : Int) != (x9 : Int)) = false := bne_no rfl
    go_wp2_with fail
    refine H6.out.mono ?_
    rintro e w6 ⟨rfl, hb6⟩
    have K6 := Lib.hid (K5.out.below hb6)
    clear hb6 K5 y0 y1 y2 H6 Hbm
    have x0 := K6.out.1.1.c0
    have x1 := K6.out.1.1.c1
    have x2 := K6.out.1.1.c2
    have H7 := Lib.hid (break_l true xg A1 m1 c1 zs xE _ K6.out.1.2.1 (by omega) K6.out.1.2.2.1 (by show brkO (mk xg (val zs) xE) = _; rw [Hv1.out]; exact Hbx.out))
    go_wp2_with fail
    refine H7.out.mono ?_
    rintro e w7 ⟨rfl, hb7⟩
    have K7 := Lib.hid (K6.out.below hb7)
    clear hb7 K6 x0 x1 x2 H7 Hbx Hv1
    have a8 := below1 w7 (.cells #[.int .u64 1] 22)
    have n8 := lim_new1 w7 22 1 1 rfl (by decide)
    have a9 := below1 (w7.alloc (.cells #[.int .u64 1] 22)) (.cells #[.bool false, .slice (some ⟨w7.heap.size, 0, none⟩) 1 1, .int .i64 (-1100)] 28)
    have n9 := Bd.new (w7.alloc (.cells #[.int .u64 1] 22)) 28 false (some ⟨w7.heap.size, 0, none⟩) 1 1 (-1100)
    rw [World.size_alloc] at n9
    have K8 := (K7.out.below a8).below a9
    have H8 := Lib.hid (dadd_any (some td) mg A3 m3 c3 us mE false (some ⟨w7.heap.size, 0, none⟩) 1 1 [1] (-1100) _ K8.2.2 (n8.below a9) (by omega) (by decide) K8.1.2.2.1 (by show addO _ _ = _; rw [Hv3.out, val_single]; exact Htd1.out))
    have x0 := K8.2.1.c0
    have x1 := K8.2.1.c1
    have x2 := K8.2.1.c2
    have y0 := n9.c0
    have y1 := n9.c1
    have y2 := n9.c2
    have HK8 := Lib.hid K8
    clear a8 n8 a9 n9 K8 K7 Htd1 Hv3
    go_wp2_with fail
    refine H8.out.mono ?_
    rintro e w8 ⟨g6, A6, m6, c6, ts, E6, r6, rfl, hm6, hl6, hb6, his, hB6⟩
    obtain ⟨rfl, h61, h62, h63⟩ := his
    have K9 := HK8.out.below hB6
    have K10 := Lib.hid (HoldD2.start K9.1 g6 A6 m6 c6 ts E6 hl6)
    have H9 := Lib.hid (break_l false g6 A6 m6 c6 ts E6 _ K10.out.2.2 (by omega) K10.out.1.2.2.1 (by show brkO (mk g6 (val ts) E6) = _; rw [h61, h62, h63]; exact Htd2.out))
    clear hl6 hb6 h61 h62 h63 hB6 K9 HK8 H8 x0 x1 x2 y0 y1 y2 Htd2
    have x0 := K10.out.2.1.c0
    have x1 := K10.out.2.1.c1
    have x2 := K10.out.2.1.c2
    go_wp2_with fail
    refine H9.out.mono ?_
    rintro e w9 ⟨rfl, hb9⟩
    have Hfin := Lib.hid (K10.out.below hb9).1.2.2.2
    clear hb9 K10 H9 x0 x1 x2
    go_wp2
    go_ret
    exact ⟨rfl, Hfin.out⟩

theorem walk_nextBack (a : Int) (w : World) (hT : Tab w) (h1 : 0 ≤ a) (h2 : a ≤ 18446744073709551615) :
    Calls Tryd.prog 5 #[.int .u64 a] w fun e w' => e = .returned (.bool true) ∧ Below w.heap.size w w' := by
  obtain ⟨b, rfl⟩ : ∃ b : Nat, a = (b : Int) := ⟨a.toNat, by omega⟩
  by_cases hf : Fnt b
  · exact nback_yes b (by omega) w hT hf
  · exact nback_no b (by omega) w hT hf
end Go.Proofs.YtgacafdkhailmaaDoor

/- The walk of NextCount. -/
namespace Go.Proofs.YtgacafdkhailmaaDoor
open Go.RowKit

/-- Up and Down, of whatever bits. -/
theorem up_any (b : Nat) (hb : b < 18446744073709551616) : ∃ (X : Nat) (ok : Bool), X < 18446744073709551616 ∧ ok = decide (Fnt b) ∧ ∀ w, Calls Tryd.prog 8 #[.int .u64 (b : Int)] w fun e w' => e = .returned (.tuple #[.int .u64 (X : Int), .bool ok]) ∧ w = w' := by
  by_cases h : Fnt b
  · exact ⟨nupX b, true, nup_lt hb h, (decide_eq_true h).symm, fun w => up_yes _ b hb w h rfl⟩
  · exact ⟨0, false, by decide, (decide_eq_false h).symm, fun w => up_no b hb w h⟩
theorem ndown_any (b : Nat) (hb : b < 18446744073709551616) (h : Fnt b) : ∃ X : Nat, X < 18446744073709551616 ∧ ∀ w, Calls Tryd.prog 9 #[.int .u64 (b : Int)] w fun e w' => e = .returned (.tuple #[.int .u64 (X : Int), .bool true]) ∧ w = w' := by
  refine ⟨ndnX b, ?_, fun w => down_yes _ b hb w h rfl⟩
  unfold ndnX
  obtain ⟨f1, f2, _, _⟩ := flp_facts hb
  exact (flp_facts (nup_lt f1 ((size_same f2).2.2.2.1.2 h))).1

set_option maxRecDepth 20000 in
set_option maxHeartbeats 4000000 in
theorem ncount (b n : Nat) (hb : b < 18446744073709551616) (hn : n < 256) (w : World) (hT : Tab w) :
    Calls Tryd.prog 6 #[.int .u64 (b : Int), .int .u8 (n : Int)] w fun e w' => e = .returned (.bool true) ∧ Below w.heap.size w w' := by
  have H1 := Lib.hid (nalive_any w hT)
  have HT := Lib.hid hT
  have HBes : Hid (∀ s, Tab s → (Calls Tryd.prog 11 #[.int .u64 (b : Int)] s fun e w' => e = .returned (.tuple #[.agg #[.bool false, .slice none 0 0, .int .i64 0], .agg #[.bool false, .slice none 0 0, .int .i64 0], .bool false]) ∧ Below s.heap.size s w') ∨
      ∃ d1 d2 : Dy, Calls Tryd.prog 11 #[.int .u64 (b : Int)] s (BTold s d1 d2) ∧ brkO (mk d1.neg d1.V d1.e) = true ∧ brkO (mk d2.neg d2.V d2.e) = true ∧ cmpI (dw d1.neg d1.V d1.e) (dw d2.neg d2.V d2.e) = -1) := fun s hs => by
    by_cases hf : Fnt b
    · by_cases h0 : fm b = 0
      · exact Or.inl (beside_no b hb s (Or.inl h0))
      · have hx0 : b % 9223372036854775808 ≠ 0 := fun h => h0 ((fm_zero_iff b).2 h)
        have hl := fin_lt hf
        exact Or.inr ⟨_, _, beside_yes _ b hb s hs hf h0 rfl, mid_break (fin_of_lt (by omega)), mid_break (fin_of_lt (by omega)), beside_less hx0 hl⟩
    · exact Or.inl (beside_no b hb s (Or.inr hf))
  clear hT
  go_enter Tryd.func6, Tryd.ntmps6
  go_wp2_with fail
  refine H1.out.mono ?_
  rintro e w1 ⟨rfl, hb1⟩
  have HS1 := Lib.hid hb1
  have HT1 := Lib.hid (HT.out.below hb1)
  clear hb1 H1 HT
  go_wp2
  go_loop [5, 6] (fun x i => ∃ (X j : Nat), x = .int .u64 (X : Int) ∧ i = .int .i64 (j : Int) ∧ j ≤ n ∧ X < 18446744073709551616) (fun _ i => n - (intOf i).toNat)
  case atStart => exact ⟨b, 0, rfl, rfl, Nat.zero_le _, hb⟩
  case round =>
    obtain ⟨X, j, rfl, rfl, hj, hX⟩ := hrel
    by_cases hlt : j < n
    · obtain ⟨U, ok, hU, hok, hup⟩ := up_any X hX
      have HU := Lib.hid hup
      have Hf : Hid (decide (Fnt X) = ok) := hok.symm
      clear hup hok
      cases ok with
      | true =>
        go_wp2_with fail
        refine (HU.out _).mono ?_
        rintro e w' ⟨rfl, rfl⟩
        go_wp2
        go_round
        case rel => exact ⟨U, j + 1, rfl, by go_num, by omega, hU⟩
        case measure => simp [intOf]; omega
      | false =>
        go_wp2_with fail
        refine (HU.out _).mono ?_
        rintro e w' ⟨rfl, rfl⟩
        go_wp2_with fail
        refine (ffin_l false X hX _ Hf).mono ?_
        rintro e w' ⟨rfl, rfl⟩
        go_wp2
        go_ret
        exact ⟨rfl, HS1.out⟩
    · obtain rfl : j = n := by omega
      clear hlt hj
      go_wp2
      go_loop [5, 9] (fun x i => ∃ (Y k : Nat), x = .int .u64 (Y : Int) ∧ i = .int .i64 (k : Int) ∧ k ≤ j ∧ Y < 18446744073709551616) (fun _ i => j - (intOf i).toNat)
      case atStart => exact ⟨X, 0, rfl, rfl, Nat.zero_le _, hX⟩
      case round =>
        obtain ⟨Y, k, rfl, rfl, hk, hY⟩ := hrel
        obtain ⟨go, hgo⟩ : ∃ go : Bool, (k < j ∧ Fnt Y ∧ go = true) ∨ ((k = j ∨ ¬ Fnt Y) ∧ go = false) := by
          by_cases h : k < j ∧ Fnt Y
          · exact ⟨true, Or.inl ⟨h.1, h.2, rfl⟩⟩
          · exact ⟨false, Or.inr ⟨by rcases Nat.lt_or_ge k j with h' | h'; exact Or.inr (fun q => h ⟨h', q⟩); exact Or.inl (by omega), rfl⟩⟩
        rcases hgo with ⟨hkj, hfY, rfl⟩ | ⟨hend, rfl⟩
        · obtain ⟨Z, hZ, hdn⟩ := ndown_any Y hY hfY
          have HD := Lib.hid hdn
          have Hf : Hid (decide (Fnt Y) = true) := decide_eq_true hfY
          clear hdn hfY
          go_wp2_with fail
          refine (ffin_l true Y hY _ Hf).mono ?_
          rintro e w' ⟨rfl, rfl⟩
          go_wp2_with fail
          refine (HD.out _).mono ?_
          rintro e w' ⟨rfl, rfl⟩
          go_wp2
          go_round
          case rel => exact ⟨Z, k + 1, rfl, by go_num, by omega, hZ⟩
          case measure => simp [intOf]; omega
        · rcases hend with hkj | hfY
          · subst hkj
            clear hk
            have HB := Lib.hid (HBes.out w1 HT1.out)
            clear HBes
            rcases HB.out with hno | ⟨d1, d2, hyes, hk1, hk2, hcm⟩
            · have HN := Lib.hid hno
              clear HB hno
              go_wp2_with fail
              refine HN.out.mono ?_
              rintro e w3 ⟨rfl, hb3⟩
              have Hfin := Lib.hid (((HS1.out.trans (hb3.mono HS1.out.size)).alloc (HS1.out.trans (hb3.mono HS1.out.size)).size (.cells #[.bool false, .slice none 0 0, .int .i64 0] 28)).alloc (Nat.le_trans (HS1.out.trans (hb3.mono HS1.out.size)).size (by simp)) (.cells #[.bool false, .slice none 0 0, .int .i64 0] 28))
              clear hb3 HN
              go_wp2
              go_ret
              exact ⟨rfl, Hfin.out⟩
            · have HY := Lib.hid hyes
              have Hk1 := Lib.hid hk1
              have Hk2 := Lib.hid hk2
              have Hcm := Lib.hid hcm
              clear HB hyes hk1 hk2 hcm
              obtain ⟨g1, V1, E1⟩ := d1
              obtain ⟨g2, V2, E2⟩ := d2
              simp only at Hk1 Hk2 Hcm
              go_wp2_with fail
              refine HY.out.mono ?_
              rintro e w3 ⟨A3, m3, c3, zs, B3, n3, d3, us, rfl, hm3, hn3, hl3, hl4, hba3, hba4, hv3, hv4, hb3⟩
              simp only at hv3 hv4
              have s3 := HS1.out.trans (hb3.mono HS1.out.size)
              have a4 := below1 w3 (.cells #[.bool g1, .slice A3 m3 c3, .int .i64 E1] 28)
              have h4 : HoldD w w3.heap.size g1 A3 m3 c3 zs E1 (w3.alloc (.cells #[.bool g1, .slice A3 m3 c3, .int .i64 E1] 28)) := ⟨Bd.new w3 _ _ _ _ _ _, hl3.below a4, (HT1.out.below hb3).below a4, s3.trans (a4.mono s3.size)⟩
              have h5 := HoldD2.start h4 g2 B3 n3 d3 us E2 (hl4.below a4)
              rw [World.size_alloc] at h5
              have K5 := Lib.hid h5
              have H5 : Hid (∀ s, HoldD2 w w3.heap.size g1 A3 m3 c3 zs E1 (w3.heap.size + 1) g2 B3 n3 d3 us E2 s → Calls Tryd.prog 18 #[.agg #[.bool g1, .slice A3 m3 c3, .int .i64 E1]] s fun e w' => e = .returned (.bool true) ∧ Below s.heap.size s w') := fun s hs =>
                break_l true g1 A3 m3 c3 zs E1 s hs.1.2.1 (by omega) hs.1.2.2.1 (by show brkO (mk g1 (val zs) E1) = _; rw [hv3]; exact Hk1.out)
              have H6 : Hid (∀ s, HoldD2 w w3.heap.size g1 A3 m3 c3 zs E1 (w3.heap.size + 1) g2 B3 n3 d3 us E2 s → Calls Tryd.prog 18 #[.agg #[.bool g2, .slice B3 n3 d3, .int .i64 E2]] s fun e w' => e = .returned (.bool true) ∧ Below s.heap.size s w') := fun s hs =>
                break_l true g2 B3 n3 d3 us E2 s hs.2.2 (by omega) hs.1.2.2.1 (by show brkO (mk g2 (val us) E2) = _; rw [hv4]; exact Hk2.out)
              have H7 : Hid (∀ s, HoldD2 w w3.heap.size g1 A3 m3 c3 zs E1 (w3.heap.size + 1) g2 B3 n3 d3 us E2 s → Calls Tryd.prog 27 #[.agg #[.bool g1, .slice A3 m3 c3, .int .i64 E1], .agg #[.bool g2, .slice B3 n3 d3, .int .i64 E2]] s fun e w' => e = .returned (.int .i64 (-1)) ∧ Below s.heap.size s w') := fun s hs =>
                dcmp_l (-1) g1 A3 m3 c3 zs E1 g2 B3 n3 d3 us E2 s hs.1.2.1 hs.2.2 (by omega) (by omega) hs.1.2.2.1 (by show cmpI _ _ = _; rw [hv3, hv4]; exact Hcm.out)
              clear s3 a4 h4 h5 hl3 hl4 hba3 hba4 hv3 hv4 hb3 Hk1 Hk2 Hcm HY
              have x0 := K5.out.1.1.c0
              have x1 := K5.out.1.1.c1
              have x2 := K5.out.1.1.c2
              go_wp2_with fail
              refine (H5.out _ K5.out).mono ?_
              rintro e w5 ⟨rfl, hb5⟩
              have K6 := Lib.hid (K5.out.below hb5)
              clear hb5 K5 x0 x1 x2 H5
              have x0 := K6.out.2.1.c0
              have x1 := K6.out.2.1.c1
              have x2 := K6.out.2.1.c2
              go_wp2_with fail
              refine (H6.out _ K6.out).mono ?_
              rintro e w6 ⟨rfl, hb6⟩
              have K7 := Lib.hid (K6.out.below hb6)
              clear hb6 K6 x0 x1 x2 H6
              have x0 := K7.out.1.1.c0
              have x1 := K7.out.1.1.c1
              have x2 := K7.out.1.1.c2
              have y0 := K7.out.2.1.c0
              have y1 := K7.out.2.1.c1
              have y2 := K7.out.2.1.c2
              go_wp2_with fail
              refine (H7.out _ K7.out).mono ?_
              rintro e w7 ⟨rfl, hb7⟩
              have Hfin := Lib.hid (K7.out.below hb7).1.2.2.2
              clear hb7 K7 x0 x1 x2 y0 y1 y2 H7
              go_wp2
              go_ret
              exact ⟨rfl, Hfin.out⟩
          · have Hf : Hid (decide (Fnt Y) = false) := decide_eq_false hfY
            clear hfY
            by_cases hkj : k = j
            · subst hkj
              clear hk Hf
              have HB := Lib.hid (HBes.out w1 HT1.out)
              clear HBes
              rcases HB.out with hno | ⟨d1, d2, hyes, hk1, hk2, hcm⟩
              · have HN := Lib.hid hno
                clear HB hno
                go_wp2_with fail
                refine HN.out.mono ?_
                rintro e w3 ⟨rfl, hb3⟩
                have Hfin := Lib.hid (((HS1.out.trans (hb3.mono HS1.out.size)).alloc (HS1.out.trans (hb3.mono HS1.out.size)).size (.cells #[.bool false, .slice none 0 0, .int .i64 0] 28)).alloc (Nat.le_trans (HS1.out.trans (hb3.mono HS1.out.size)).size (by simp)) (.cells #[.bool false, .slice none 0 0, .int .i64 0] 28))
                clear hb3 HN
                go_wp2
                go_ret
                exact ⟨rfl, Hfin.out⟩
              · have HY := Lib.hid hyes
                have Hk1 := Lib.hid hk1
                have Hk2 := Lib.hid hk2
                have Hcm := Lib.hid hcm
                clear HB hyes hk1 hk2 hcm
                obtain ⟨g1, V1, E1⟩ := d1
                obtain ⟨g2, V2, E2⟩ := d2
                simp only at Hk1 Hk2 Hcm
                go_wp2_with fail
                refine HY.out.mono ?_
                rintro e w3 ⟨A3, m3, c3, zs, B3, n3, d3, us, rfl, hm3, hn3, hl3, hl4, hba3, hba4, hv3, hv4, hb3⟩
                simp only at hv3 hv4
                have s3 := HS1.out.trans (hb3.mono HS1.out.size)
                have a4 := below1 w3 (.cells #[.bool g1, .slice A3 m3 c3, .int .i64 E1] 28)
                have h4 : HoldD w w3.heap.size g1 A3 m3 c3 zs E1 (w3.alloc (.cells #[.bool g1, .slice A3 m3 c3, .int .i64 E1] 28)) := ⟨Bd.new w3 _ _ _ _ _ _, hl3.below a4, (HT1.out.below hb3).below a4, s3.trans (a4.mono s3.size)⟩
                have h5 := HoldD2.start h4 g2 B3 n3 d3 us E2 (hl4.below a4)
                rw [World.size_alloc] at h5
                have K5 := Lib.hid h5
                have H5 : Hid (∀ s, HoldD2 w w3.heap.size g1 A3 m3 c3 zs E1 (w3.heap.size + 1) g2 B3 n3 d3 us E2 s → Calls Tryd.prog 18 #[.agg #[.bool g1, .slice A3 m3 c3, .int .i64 E1]] s fun e w' => e = .returned (.bool true) ∧ Below s.heap.size s w') := fun s hs =>
                  break_l true g1 A3 m3 c3 zs E1 s hs.1.2.1 (by omega) hs.1.2.2.1 (by show brkO (mk g1 (val zs) E1) = _; rw [hv3]; exact Hk1.out)
                have H6 : Hid (∀ s, HoldD2 w w3.heap.size g1 A3 m3 c3 zs E1 (w3.heap.size + 1) g2 B3 n3 d3 us E2 s → Calls Tryd.prog 18 #[.agg #[.bool g2, .slice B3 n3 d3, .int .i64 E2]] s fun e w' => e = .returned (.bool true) ∧ Below s.heap.size s w') := fun s hs =>
                  break_l true g2 B3 n3 d3 us E2 s hs.2.2 (by omega) hs.1.2.2.1 (by show brkO (mk g2 (val us) E2) = _; rw [hv4]; exact Hk2.out)
                have H7 : Hid (∀ s, HoldD2 w w3.heap.size g1 A3 m3 c3 zs E1 (w3.heap.size + 1) g2 B3 n3 d3 us E2 s → Calls Tryd.prog 27 #[.agg #[.bool g1, .slice A3 m3 c3, .int .i64 E1], .agg #[.bool g2, .slice B3 n3 d3, .int .i64 E2]] s fun e w' => e = .returned (.int .i64 (-1)) ∧ Below s.heap.size s w') := fun s hs =>
                  dcmp_l (-1) g1 A3 m3 c3 zs E1 g2 B3 n3 d3 us E2 s hs.1.2.1 hs.2.2 (by omega) (by omega) hs.1.2.2.1 (by show cmpI _ _ = _; rw [hv3, hv4]; exact Hcm.out)
                clear s3 a4 h4 h5 hl3 hl4 hba3 hba4 hv3 hv4 hb3 Hk1 Hk2 Hcm HY
                have x0 := K5.out.1.1.c0
                have x1 := K5.out.1.1.c1
                have x2 := K5.out.1.1.c2
                go_wp2_with fail
                refine (H5.out _ K5.out).mono ?_
                rintro e w5 ⟨rfl, hb5⟩
                have K6 := Lib.hid (K5.out.below hb5)
                clear hb5 K5 x0 x1 x2 H5
                have x0 := K6.out.2.1.c0
                have x1 := K6.out.2.1.c1
                have x2 := K6.out.2.1.c2
                go_wp2_with fail
                refine (H6.out _ K6.out).mono ?_
                rintro e w6 ⟨rfl, hb6⟩
                have K7 := Lib.hid (K6.out.below hb6)
                clear hb6 K6 x0 x1 x2 H6
                have x0 := K7.out.1.1.c0
                have x1 := K7.out.1.1.c1
                have x2 := K7.out.1.1.c2
                have y0 := K7.out.2.1.c0
                have y1 := K7.out.2.1.c1
                have y2 := K7.out.2.1.c2
                go_wp2_with fail
                refine (H7.out _ K7.out).mono ?_
                rintro e w7 ⟨rfl, hb7⟩
                have Hfin := Lib.hid (K7.out.below hb7).1.2.2.2
                clear hb7 K7 x0 x1 x2 y0 y1 y2 H7
                go_wp2
                go_ret
                exact ⟨rfl, Hfin.out⟩
            · have hlt : k < j := by omega
              go_wp2_with fail
              refine (ffin_l false Y hY _ Hf).mono ?_
              rintro e w' ⟨rfl, rfl⟩
              clear Hf
              have HB := Lib.hid (HBes.out w1 HT1.out)
              clear HBes
              rcases HB.out with hno | ⟨d1, d2, hyes, hk1, hk2, hcm⟩
              · have HN := Lib.hid hno
                clear HB hno
                go_wp2_with fail
                refine HN.out.mono ?_
                rintro e w3 ⟨rfl, hb3⟩
                have Hfin := Lib.hid (((HS1.out.trans (hb3.mono HS1.out.size)).alloc (HS1.out.trans (hb3.mono HS1.out.size)).size (.cells #[.bool false, .slice none 0 0, .int .i64 0] 28)).alloc (Nat.le_trans (HS1.out.trans (hb3.mono HS1.out.size)).size (by simp)) (.cells #[.bool false, .slice none 0 0, .int .i64 0] 28))
                clear hb3 HN
                go_wp2
                go_ret
                exact ⟨rfl, Hfin.out⟩
              · have HY := Lib.hid hyes
                have Hk1 := Lib.hid hk1
                have Hk2 := Lib.hid hk2
                have Hcm := Lib.hid hcm
                clear HB hyes hk1 hk2 hcm
                obtain ⟨g1, V1, E1⟩ := d1
                obtain ⟨g2, V2, E2⟩ := d2
                simp only at Hk1 Hk2 Hcm
                go_wp2_with fail
                refine HY.out.mono ?_
                rintro e w3 ⟨A3, m3, c3, zs, B3, n3, d3, us, rfl, hm3, hn3, hl3, hl4, hba3, hba4, hv3, hv4, hb3⟩
                simp only at hv3 hv4
                have s3 := HS1.out.trans (hb3.mono HS1.out.size)
                have a4 := below1 w3 (.cells #[.bool g1, .slice A3 m3 c3, .int .i64 E1] 28)
                have h4 : HoldD w w3.heap.size g1 A3 m3 c3 zs E1 (w3.alloc (.cells #[.bool g1, .slice A3 m3 c3, .int .i64 E1] 28)) := ⟨Bd.new w3 _ _ _ _ _ _, hl3.below a4, (HT1.out.below hb3).below a4, s3.trans (a4.mono s3.size)⟩
                have h5 := HoldD2.start h4 g2 B3 n3 d3 us E2 (hl4.below a4)
                rw [World.size_alloc] at h5
                have K5 := Lib.hid h5
                have H5 : Hid (∀ s, HoldD2 w w3.heap.size g1 A3 m3 c3 zs E1 (w3.heap.size + 1) g2 B3 n3 d3 us E2 s → Calls Tryd.prog 18 #[.agg #[.bool g1, .slice A3 m3 c3, .int .i64 E1]] s fun e w' => e = .returned (.bool true) ∧ Below s.heap.size s w') := fun s hs =>
                  break_l true g1 A3 m3 c3 zs E1 s hs.1.2.1 (by omega) hs.1.2.2.1 (by show brkO (mk g1 (val zs) E1) = _; rw [hv3]; exact Hk1.out)
                have H6 : Hid (∀ s, HoldD2 w w3.heap.size g1 A3 m3 c3 zs E1 (w3.heap.size + 1) g2 B3 n3 d3 us E2 s → Calls Tryd.prog 18 #[.agg #[.bool g2, .slice B3 n3 d3, .int .i64 E2]] s fun e w' => e = .returned (.bool true) ∧ Below s.heap.size s w') := fun s hs =>
                  break_l true g2 B3 n3 d3 us E2 s hs.2.2 (by omega) hs.1.2.2.1 (by show brkO (mk g2 (val us) E2) = _; rw [hv4]; exact Hk2.out)
                have H7 : Hid (∀ s, HoldD2 w w3.heap.size g1 A3 m3 c3 zs E1 (w3.heap.size + 1) g2 B3 n3 d3 us E2 s → Calls Tryd.prog 27 #[.agg #[.bool g1, .slice A3 m3 c3, .int .i64 E1], .agg #[.bool g2, .slice B3 n3 d3, .int .i64 E2]] s fun e w' => e = .returned (.int .i64 (-1)) ∧ Below s.heap.size s w') := fun s hs =>
                  dcmp_l (-1) g1 A3 m3 c3 zs E1 g2 B3 n3 d3 us E2 s hs.1.2.1 hs.2.2 (by omega) (by omega) hs.1.2.2.1 (by show cmpI _ _ = _; rw [hv3, hv4]; exact Hcm.out)
                clear s3 a4 h4 h5 hl3 hl4 hba3 hba4 hv3 hv4 hb3 Hk1 Hk2 Hcm HY
                have x0 := K5.out.1.1.c0
                have x1 := K5.out.1.1.c1
                have x2 := K5.out.1.1.c2
                go_wp2_with fail
                refine (H5.out _ K5.out).mono ?_
                rintro e w5 ⟨rfl, hb5⟩
                have K6 := Lib.hid (K5.out.below hb5)
                clear hb5 K5 x0 x1 x2 H5
                have x0 := K6.out.2.1.c0
                have x1 := K6.out.2.1.c1
                have x2 := K6.out.2.1.c2
                go_wp2_with fail
                refine (H6.out _ K6.out).mono ?_
                rintro e w6 ⟨rfl, hb6⟩
                have K7 := Lib.hid (K6.out.below hb6)
                clear hb6 K6 x0 x1 x2 H6
                have x0 := K7.out.1.1.c0
                have x1 := K7.out.1.1.c1
                have x2 := K7.out.1.1.c2
                have y0 := K7.out.2.1.c0
                have y1 := K7.out.2.1.c1
                have y2 := K7.out.2.1.c2
                go_wp2_with fail
                refine (H7.out _ K7.out).mono ?_
                rintro e w7 ⟨rfl, hb7⟩
                have Hfin := Lib.hid (K7.out.below hb7).1.2.2.2
                clear hb7 K7 x0 x1 x2 y0 y1 y2 H7
                go_wp2
                go_ret
                exact ⟨rfl, Hfin.out⟩

theorem walk_nextCount (a c : Int) (w : World) (hT : Tab w) (h1 : 0 ≤ a) (h2 : a ≤ 18446744073709551615) (h3 : 0 ≤ c) (h4 : c ≤ 255) :
    Calls Tryd.prog 6 #[.int .u64 a, .int .u8 c] w fun e w' => e = .returned (.bool true) ∧ Below w.heap.size w w' := by
  obtain ⟨b, rfl⟩ : ∃ b : Nat, a = (b : Int) := ⟨a.toNat, by omega⟩
  obtain ⟨n, rfl⟩ : ∃ n : Nat, c = (n : Int) := ⟨c.toNat, by omega⟩
  exact ncount b n (by omega) (by omega) w hT
end Go.Proofs.YtgacafdkhailmaaDoor
