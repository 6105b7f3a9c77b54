/- RnMath, RnCut, RnTo, RnAll, RnDo, RnOrd, NxMath, RnRef, RnSum, RnCmp, RnSeek, RnBelow, RnMid, NxUp, NxBreak: joined. -/
import Derived.Test.YtmmeejofepmgaaaGreatDoorK2
import Derived.Test.YtmmeejofepmgaaaGreatDoorK1
import Derived.Deep.Cut
/- Rounding, as plain mathematics: the size that bits are worth, which bits lie below a size, what a number is rounded to; by the program's way (rndO) and by sizes (rndS). -/
namespace Go.Proofs.YtmmeejofepmgaaaGreatDoor

/-- Where the least unit lies: a number that nothing reckons with. -/
noncomputable def kb : Nat := Classical.choose (⟨2147482574, rfl⟩ : ∃ k : Nat, k = 2147482574)
theorem kb_eq : kb = 2147482574 := Classical.choose_spec (⟨2147482574, rfl⟩ : ∃ k : Nat, k = 2147482574)
/-- The size of bits without a sign; infinity's is 2^1024. -/
noncomputable def vX (X : Nat) : Nat := fm X * 2 ^ (fE X + kb)

theorem vX_parts {L U X : Nat} (hX : X = L * 4503599627370496 + U) (hU : U ≤ 9007199254740992) (h2 : 0 < L → 4503599627370496 ≤ U) (hL : L ≤ 2045) : vX X = U * 2 ^ (L + kb) := by
  unfold vX
  rcases Nat.lt_or_ge U 4503599627370496 with h | h
  · have hL0 : L = 0 := by omega
    subst hL0
    have e1 : fex X = 0 := by unfold fex; omega
    have e2 : ffr X = U := by unfold ffr; omega
    rw [fm, if_pos e1, e2, fE, e1]
  · rcases Nat.lt_or_ge U 9007199254740992 with h' | h'
    · have e1 : fex X = L + 1 := by unfold fex; omega
      have e2 : ffr X = U - 4503599627370496 := by unfold ffr; omega
      rw [fm, if_neg (by omega), e2, fE, e1, Nat.add_sub_cancel, Nat.sub_add_cancel h]
    · have e0 : U = 9007199254740992 := by omega
      subst e0
      have e1 : fex X = L + 2 := by unfold fex; omega
      have e2 : ffr X = 0 := by unfold ffr; omega
      rw [fm, if_neg (by omega), e2, fE, e1, show L + 2 - 1 + kb = (L + kb) + 1 by omega, Nat.pow_succ]
      generalize 2 ^ (L + kb) = D
      omega
/-- The bits' own parts. -/
theorem x_parts {X : Nat} (h : X < 9218868437227405312) : X = fE X * 4503599627370496 + fm X ∧ fm X < 9007199254740992 ∧ (0 < fE X → 4503599627370496 ≤ fm X) ∧ fE X ≤ 2045 := by
  obtain ⟨p1, p2, p3, p4⟩ := f_parts X
  have hf : Fnt X := by unfold Fnt fex; omega
  exact ⟨by omega, p2, p3, p4 hf⟩
theorem vX_next {X : Nat} (h : X < 9218868437227405312) : vX (X + 1) = vX X + 2 ^ (fE X + kb) := by
  obtain ⟨p1, p2, p3, p4⟩ := x_parts h
  have h1 := vX_parts (L := fE X) (U := fm X + 1) (X := X + 1) (by omega) (by omega) (by omega) p4
  rw [h1, Nat.add_mul, Nat.one_mul]; rfl
theorem vX_lt {X : Nat} (h : X < 9218868437227405312) : vX X < vX (X + 1) := by
  rw [vX_next h]; exact Nat.lt_add_of_pos_right (Nat.two_pow_pos _)
theorem vX_mono {X d : Nat} (h : X + d ≤ 9218868437227405312) : vX X ≤ vX (X + d) := by
  induction d with
  | zero => exact Nat.le_refl _
  | succ d ih =>
    have h1 := ih (by omega)
    have h2 := vX_lt (X := X + d) (by omega)
    rw [← Nat.add_assoc]
    omega
theorem vX_le {X Y : Nat} (h : X ≤ Y) (hY : Y ≤ 9218868437227405312) : vX X ≤ vX Y := by
  have := vX_mono (X := X) (d := Y - X) (by omega)
  rwa [Nat.add_sub_cancel' h] at this

/-- The greatest bits that are worth at most S. -/
def IsLow (S X : Nat) : Prop := X ≤ 9218868437227405312 ∧ vX X ≤ S ∧ (X < 9218868437227405312 → S < vX (X + 1))
theorem IsLow.not_lt {S X Y : Nat} (hX : IsLow S X) (hY : IsLow S Y) : ¬ X < Y := by
  intro h
  have h1 := hX.2.2 (by have := hY.1; omega)
  have h2 := vX_le (X := X + 1) (Y := Y) h hY.1
  have h3 := hY.2.1
  omega
theorem IsLow.uniq {S X Y : Nat} (hX : IsLow S X) (hY : IsLow S Y) : X = Y := by
  have h1 := hX.not_lt hY
  have h2 := hY.not_lt hX
  omega
theorem IsLow.mono {S T X Y : Nat} (hX : IsLow S X) (hY : IsLow T Y) (h : S ≤ T) : X ≤ Y := by
  rcases Nat.lt_or_ge Y X with h' | h'
  · have h1 := hY.2.2 (by have := hX.1; omega)
    have h2 := vX_le (X := Y + 1) (Y := X) h' hX.1
    have h3 := hX.2.1
    omega
  · exact h'

/-- Does a size go up to the next unit? -/
def awy (g : Bool) (dir : Int) (odd half below : Bool) : Bool :=
  if dir = 0 then half && (below || odd) else if dir = 2 then !g && (half || below) else if dir = 3 then g && (half || below) else false
theorem awy_all {g : Bool} {dir : Int} {odd half below : Bool} (h : awy g dir odd half below = true) : awy g dir true true true = true := by
  unfold awy at *
  split
  · rfl
  · rename_i h0
    rw [if_neg h0] at h
    split
    · rename_i h1; rw [if_pos h1] at h; revert h; cases g <;> simp
    · rename_i h1
      rw [if_neg h1] at h
      split
      · rename_i h2; rw [if_pos h2] at h; revert h; cases g <;> simp
      · rename_i h2; rw [if_neg h2] at h; exact h
theorem awy_exact (g : Bool) (dir : Int) (odd : Bool) : awy g dir odd false false = false := by
  unfold awy
  cases g <;> simp

def sgn (g : Bool) (X : Nat) : Nat := (if g then 9223372036854775808 else 0) + X
def overM (g : Bool) (dir : Int) : Nat := if awy g dir true true true then 9218868437227405312 else 9218868437227405311
def overO (g : Bool) (dir : Int) : Nat × Nat := (sgn g (overM g dir), 5)
def upX (g : Bool) (dir : Int) (X : Nat) (half below : Bool) : Nat := X + (awy g dir (decide (X % 2 = 1)) half below).toNat
def fl (half below small : Bool) : Nat := if half || below then (if small then 3 else 1) else 0
/-- What comes of the bits below it. -/
def rfin (g : Bool) (dir : Int) (X : Nat) (half below small : Bool) : Nat × Nat :=
  if upX g dir X half below = 9218868437227405312 then overO g dir else (sgn g (upX g dir X half below), fl half below small)

def rtop (V : Nat) (e : Int) : Int := (blen V : Int) - 1 + e
def ru (V : Nat) (e : Int) : Int := max (rtop V e - 52) (-1074)
def rU (V : Nat) (e u : Int) : Nat := if u ≤ e then V * 2 ^ (e - u).toNat else V / 2 ^ (u - e - 1).toNat / 2
def rH (V : Nat) (e u : Int) : Bool := if u ≤ e then false else decide (V / 2 ^ (u - e - 1).toNat % 2 = 1)
def rB (V : Nat) (e u : Int) : Bool := if u ≤ e then false else decide (V % 2 ^ (u - e - 1).toNat ≠ 0)
def rX (V : Nat) (e : Int) : Nat := (ru V e + 1074).toNat * 4503599627370496 + rU V e (ru V e)
def lowX (V : Nat) (e : Int) : Nat := if 1023 < rtop V e then 9218868437227405312 else rX V e
/-- By the program's way: of a number that isn't 0. -/
def rndO (g : Bool) (V : Nat) (e : Int) (more : Bool) (dir : Int) : Nat × Nat :=
  if 1023 < rtop V e then overO g dir else
  rfin g dir (rX V e) (rH V e (ru V e)) (rB V e (ru V e) || more) (decide (rtop V e < -1022))
/-- By sizes. -/
noncomputable def hS (S X : Nat) : Bool := decide (vX X + vX (X + 1) ≤ 2 * S)
noncomputable def bS (S X : Nat) : Bool := decide (S ≠ vX X ∧ 2 * S ≠ vX X + vX (X + 1))
noncomputable def rndS (g : Bool) (S : Nat) (more : Bool) (dir : Int) (X : Nat) : Nat × Nat :=
  if X = 9218868437227405312 then overO g dir else rfin g dir X (hS S X) (bS S X || more) (decide (S < vX 4503599627370496))

theorem cut_facts {P Q U h b V : Nat} (hP : 0 < P) (hh : h < 2) (hb : b < Q) (hV : V = (2 * U + h) * Q + b) :
    U * (2 * Q * P) ≤ V * P ∧ V * P < (U + 1) * (2 * Q * P) ∧ (U * (2 * Q * P) + (U + 1) * (2 * Q * P) ≤ 2 * (V * P) ↔ h = 1) ∧
    (V * P = U * (2 * Q * P) ↔ h = 0 ∧ b = 0) ∧ (2 * (V * P) = U * (2 * Q * P) + (U + 1) * (2 * Q * P) ↔ h = 1 ∧ b = 0) := by
  have e1 : U * (2 * Q * P) = (U * Q * 2) * P := by rw [← Nat.mul_assoc, ← Nat.mul_assoc, Nat.mul_right_comm U 2 Q]
  have e2 : (U + 1) * (2 * Q * P) = (U * Q * 2 + 2 * Q) * P := by rw [Nat.add_mul, e1, Nat.one_mul, ← Nat.add_mul]
  have e3 : V = U * Q * 2 + h * Q + b := by rw [hV, Nat.add_mul, Nat.mul_comm 2 U, Nat.mul_right_comm U 2 Q]
  have e4 : 2 * (V * P) = (2 * V) * P := (Nat.mul_assoc _ _ _).symm
  rw [e1, e2, e4, ← Nat.add_mul]
  have c1 : ∀ x y : Nat, x * P ≤ y * P ↔ x ≤ y := fun x y => Nat.mul_le_mul_right_iff hP
  have c2 : ∀ x y : Nat, x * P < y * P ↔ x < y := fun x y => Nat.mul_lt_mul_right hP
  have c3 : ∀ x y : Nat, x * P = y * P ↔ x = y := fun x y => ⟨fun h => Nat.eq_of_mul_eq_mul_right hP h, fun h => by rw [h]⟩
  rw [c1, c2, c1, c3, c3]
  generalize U * Q = A at *
  have hh' : h = 0 ∨ h = 1 := by omega
  rcases hh' with rfl | rfl
  · rw [Nat.zero_mul] at e3
    omega
  · rw [Nat.one_mul] at e3
    omega

theorem sh_eq {e : Int} (h1 : -1073741824 ≤ e) (h2 : e ≤ 1073741824) : (sh e : Int) = e + 2147483648 := by rw [sh_held, held_id h1 h2]

/-- The program's way is that of sizes. -/
theorem rnd_low {V : Nat} {e : Int} (hV : V ≠ 0) (h1 : -1073741824 ≤ e) (h2 : e ≤ 1073741824) (ht : rtop V e ≤ 1023) :
    rX V e < 9218868437227405312 ∧ vX (rX V e) ≤ sz V e ∧ sz V e < vX (rX V e + 1) ∧ rH V e (ru V e) = hS (sz V e) (rX V e) ∧ rB V e (ru V e) = bS (sz V e) (rX V e) := by
  have hB := blen_pos hV
  have hlt := lt_blen V
  have hge := blen_le hV
  obtain ⟨u, hu⟩ : ∃ u, ru V e = u := ⟨_, rfl⟩
  obtain ⟨t, htt⟩ : ∃ t, rtop V e = t := ⟨_, rfl⟩
  have hu2 := hu
  unfold ru at hu2
  rw [htt] at hu2 ht
  unfold rtop at htt
  obtain ⟨L, hL⟩ : ∃ L : Nat, (u + 1074).toNat = L := ⟨_, rfl⟩
  have hL1 : u = (L : Int) - 1074 := by omega
  have hL2 : L ≤ 2045 := by omega
  have hsh := sh_eq h1 h2
  have hkb := kb_eq
  unfold rX
  rw [hu, hL]
  unfold sz
  by_cases hue : u ≤ e
  · obtain ⟨k, hk⟩ : ∃ k, (e - u).toNat = k := ⟨_, rfl⟩
    have hU : rU V e u = V * 2 ^ k := by rw [rU, if_pos hue, hk]
    have hbl := blen_shl (n := k) hV
    have hUle : V * 2 ^ k < 9007199254740992 := (blen_le_iff (k := 53)).1 (by rw [hbl]; omega)
    have hUge : 0 < L → 4503599627370496 ≤ V * 2 ^ k := fun h => by
      have h5 : blen (V * 2 ^ k) = 53 := by rw [hbl]; omega
      have h6 := blen_le (x := V * 2 ^ k) (fun h0 => by rw [h0] at h5; cases h5)
      rw [h5] at h6
      exact h6
    have hS : V * 2 ^ sh e = V * 2 ^ k * 2 ^ (L + kb) := by rw [Nat.mul_assoc, ← Nat.pow_add]; congr 2; omega
    rw [hU, hS]
    have v1 := vX_parts (L := L) (U := V * 2 ^ k) rfl (by omega) hUge hL2
    have v2 := vX_parts (L := L) (U := V * 2 ^ k + 1) (X := L * 4503599627370496 + V * 2 ^ k + 1) (by omega) (by omega) (fun h => by have := hUge h; omega) hL2
    have hp := Nat.two_pow_pos (L + kb)
    rw [hS] at *
    unfold Go.Proofs.YtmmeejofepmgaaaGreatDoor.hS Go.Proofs.YtmmeejofepmgaaaGreatDoor.bS
    rw [v1, v2, rH, if_pos hue, rB, if_pos hue]
    generalize V * 2 ^ k = U at *
    generalize 2 ^ (L + kb) = D at *
    rw [Nat.add_mul, Nat.one_mul]
    generalize U * D = Z at *
    exact ⟨by omega, Nat.le_refl _, by omega, (decide_eq_false (by omega)).symm, (decide_eq_false (by omega)).symm⟩
  · obtain ⟨k, hk⟩ : ∃ k, (u - e - 1).toNat = k := ⟨_, rfl⟩
    have hU : rU V e u = V / 2 ^ k / 2 := by rw [rU, if_neg hue, hk]
    have hdiv : V / 2 ^ k / 2 = V / 2 ^ (k + 1) := by rw [Nat.div_div_eq_div_mul, Nat.pow_succ]
    have hUle : V / 2 ^ (k + 1) < 9007199254740992 := by
      rw [Nat.div_lt_iff_lt_mul (Nat.two_pow_pos _), show (9007199254740992 : Nat) = 2 ^ 53 from by decide, ← Nat.pow_add]
      exact blen_le_iff.1 (by omega)
    have hUge : 0 < L → 4503599627370496 ≤ V / 2 ^ (k + 1) := fun h => by
      rw [Nat.le_div_iff_mul_le (Nat.two_pow_pos _), show (4503599627370496 : Nat) = 2 ^ 52 from by decide, ← Nat.pow_add, show 52 + (k + 1) = blen V - 1 by omega]
      exact hge
    rw [← hdiv] at hUle hUge
    have hD : 2 ^ (L + kb) = 2 * 2 ^ k * 2 ^ sh e := by
      rw [show L + kb = (k + 1) + sh e by omega, Nat.pow_add, Nat.pow_succ, Nat.mul_comm (2 ^ k) 2]
    rw [hU]
    have v1 := vX_parts (L := L) (U := V / 2 ^ k / 2) rfl (by omega) hUge hL2
    have v2 := vX_parts (L := L) (U := V / 2 ^ k / 2 + 1) (X := L * 4503599627370496 + V / 2 ^ k / 2 + 1) (by omega) (by omega) (fun h => by have := hUge h; omega) hL2
    have hb := Nat.mod_lt V (Nat.two_pow_pos k)
    have hVV : V = (2 * (V / 2 ^ k / 2) + V / 2 ^ k % 2) * 2 ^ k + V % 2 ^ k := by
      rw [Nat.div_add_mod]
      have := Nat.div_add_mod V (2 ^ k)
      rw [Nat.mul_comm] at this
      exact this.symm
    obtain ⟨f1, f2, f3, f4, f5⟩ := cut_facts (P := 2 ^ sh e) (Q := 2 ^ k) (U := V / 2 ^ k / 2) (h := V / 2 ^ k % 2) (b := V % 2 ^ k) (V := V) (Nat.two_pow_pos _) (Nat.mod_lt _ (by decide)) hb hVV
    rw [← hD] at f1 f2 f3 f4 f5
    unfold Go.Proofs.YtmmeejofepmgaaaGreatDoor.hS Go.Proofs.YtmmeejofepmgaaaGreatDoor.bS
    rw [v1, v2, rH, if_neg hue, rB, if_neg hue, hk]
    refine ⟨by omega, f1, f2, ?_, ?_⟩
    · rw [decide_eq_decide]; exact f3.symm
    · rw [decide_eq_decide]
      constructor
      · intro h
        exact ⟨fun h' => h (f4.1 h').2, fun h' => h (f5.1 h').2⟩
      · rintro ⟨ha, hb'⟩ h0
        have h3 := Nat.mod_lt (V / 2 ^ k) (show 0 < 2 by decide)
        have h4 : V / 2 ^ k % 2 = 0 ∨ V / 2 ^ k % 2 = 1 := by omega
        rcases h4 with h4 | h4
        · exact ha (f4.2 ⟨h4, h0⟩)
        · exact hb' (f5.2 ⟨h4, h0⟩)

theorem vX_norm : vX 4503599627370496 = 2 ^ (52 + kb) := by
  have := vX_parts (L := 0) (U := 4503599627370496) (X := 4503599627370496) (by omega) (by omega) (by omega) (by omega)
  rw [this, Nat.zero_add, Nat.pow_add]
theorem vX_inf : vX 9218868437227405312 = 2 ^ (2098 + kb) := by
  have := vX_parts (L := 2045) (U := 9007199254740992) (X := 9218868437227405312) (by omega) (by omega) (by omega) (by omega)
  rw [this, show 2098 + kb = 53 + (2045 + kb) by omega, Nat.pow_add _ 53]
theorem blen_szR {V : Nat} {e : Int} (hV : V ≠ 0) (h1 : -1073741824 ≤ e) (h2 : e ≤ 1073741824) : (blen (sz V e) : Int) = rtop V e + 1 + 2147483648 := by
  rw [blen_sz e hV, topD, held_id h1 h2]; rfl
theorem small_iff {V : Nat} {e : Int} (hV : V ≠ 0) (h1 : -1073741824 ≤ e) (h2 : e ≤ 1073741824) : rtop V e < -1022 ↔ sz V e < vX 4503599627370496 := by
  rw [vX_norm, ← blen_le_iff]
  have := blen_szR hV h1 h2
  have := kb_eq
  omega
theorem great_iff {V : Nat} {e : Int} (hV : V ≠ 0) (h1 : -1073741824 ≤ e) (h2 : e ≤ 1073741824) : 1023 < rtop V e ↔ vX 9218868437227405312 ≤ sz V e := by
  rw [vX_inf, ← Nat.not_lt, ← blen_le_iff]
  have := blen_szR hV h1 h2
  have := kb_eq
  omega

theorem low_is {V : Nat} {e : Int} (hV : V ≠ 0) (h1 : -1073741824 ≤ e) (h2 : e ≤ 1073741824) : IsLow (sz V e) (lowX V e) := by
  unfold lowX
  by_cases ht : 1023 < rtop V e
  · rw [if_pos ht]
    exact ⟨Nat.le_refl _, (great_iff hV h1 h2).1 ht, fun h => absurd h (by omega)⟩
  · rw [if_neg ht]
    obtain ⟨a, b, c, _, _⟩ := rnd_low hV h1 h2 (by omega)
    exact ⟨by omega, b, fun _ => c⟩
theorem rndO_S {V : Nat} {e : Int} (g more : Bool) (dir : Int) {X : Nat} (hV : V ≠ 0) (h1 : -1073741824 ≤ e) (h2 : e ≤ 1073741824) (hX : IsLow (sz V e) X) : rndO g V e more dir = rndS g (sz V e) more dir X := by
  obtain rfl := hX.uniq (low_is hV h1 h2)
  unfold rndO rndS lowX
  by_cases ht : 1023 < rtop V e
  · rw [if_pos ht, if_pos ht, if_pos rfl]
  · obtain ⟨a, b, c, d, f⟩ := rnd_low hV h1 h2 (by omega)
    rw [if_neg ht, if_neg ht, if_neg (by omega), d, f]
    congr 1
    rw [decide_eq_decide]
    exact small_iff hV h1 h2

end Go.Proofs.YtmmeejofepmgaaaGreatDoor
/- The walks of round.known, away, signed, raised, Over, Under, up, cut, count. -/
namespace Go.Proofs.YtmmeejofepmgaaaGreatDoor
open Go.RowKit



theorem or_sign' (X : Nat) (hX : X < 9223372036854775808) : bits BinOp.or IntKind.u64 (X : Int) 9223372036854775808 = ((9223372036854775808 + X : Nat) : Int) := by
  have h := bits_or_u64_nat X 9223372036854775808 (by omega) (by decide)
  have h2 : X ||| 9223372036854775808 = 9223372036854775808 + X := by
    rw [Nat.or_comm]; exact (Nat.shiftLeft_add_eq_or_of_lt (i := 63) (b := X) (show X < 2 ^ 63 from hX) 1).symm
  rw [h2] at h
  exact h




/-- Noughts made, and limbs behind them. -/
theorem app_zeros64 (w : World) (A : Option Addr) (n c q : Nat) (ds : List Nat) (hA : Row .u64 w A n c ds) (hn : n ≤ 4294967296) (hq : q ≤ 1000000) :
    ∃ A' c' w', (Builtin.append_ #[22, 22] 22 #[.slice (some ⟨w.heap.size, 0, none⟩) q q, .slice A n c]).run Tryz.prog (w.alloc (.cells (madeCells #[.int .u64 0] q) 65)) = .ok (.slice A' (q + n) c') w' ∧
      Row .u64 w' A' (q + n) c' (List.replicate q 0 ++ ds) ∧ Below w.heap.size w w' := by
  have hb : Below w.heap.size w (w.alloc (.cells (madeCells #[.int .u64 0] q) 65)) := (Below.refl _ _).alloc (Nat.le_refl _) _
  have hown : Own .u64 65 (w.alloc (.cells (madeCells #[.int .u64 0] q) 65)) w.heap.size (.slice (some ⟨w.heap.size, 0, none⟩) q q) (List.replicate q 0) := by
    refine ⟨by simp, Or.inr ⟨w.heap.size, q, madeCells #[.int .u64 0] q, by simp, Nat.le_refl _, heap_alloc_new w _, by simp, by unfold maxLen; omega, by rw [size_madeCells]; omega, ?_⟩⟩
    have hr := World.rowIs_made w (.int .u64 0) q 65
    apply List.ext_getElem?
    intro k
    by_cases hk : k < q
    · have hc := hr.cell hk
      rw [cell_of_row _ w.heap.size k (madeCells #[.int .u64 0] q) 65 (0, 0) (heap_alloc_new w _)] at hc
      rw [List.getElem?_take_of_lt (by simpa using hk), Array.getElem?_toList, hc, List.getElem?_map, List.getElem?_replicate, if_pos hk]
      rfl
    · rw [List.getElem?_eq_none (by rw [List.length_take, List.length_replicate]; omega), List.getElem?_eq_none (by simp; omega)]
  obtain ⟨v', w', hrun, ho, hb'⟩ := run_app (P := Tryz.prog) (T := 22) (ty := 22) Tryz.underlying22 info64 hown (hA.below hb) hb.size (by simp; omega) (by simp; omega)
  obtain ⟨A1, c1, rfl, hr⟩ := ho.row
  have el : (List.replicate q 0 ++ ds).length = q + n := by rw [List.length_append, List.length_replicate, hA.len]
  rw [el] at hrun hr
  exact ⟨A1, c1, w', hrun, hr, hb.trans hb'⟩


end Go.Proofs.YtmmeejofepmgaaaGreatDoor
/- The walks of round.cut, count, laid. -/
namespace Go.Proofs.YtmmeejofepmgaaaGreatDoor
open Go.RowKit

theorem quiet_one {P : Program} {f : FuncId} {args : Array Value} {w : World} {n : Nat} {v : Value}
    (h : Calls P f args (w.drewN n) fun e w' => e = .returned v ∧ w.drewN n = w') : Calls P f args (w.drewN n) fun e w'' => e = .returned v ∧ ∃ m, w'' = w.drewN m :=
  h.mono fun _ _ ⟨he, hm⟩ => ⟨he, n, hm.symm⟩
/-- A number and two values. -/
def TellsC (w : World) (V L : Nat) (p q : Bool) (e : Ending) (w' : World) : Prop :=
  ∃ A m c zs, e = .returned (.tuple #[.slice A m c, .bool p, .bool q]) ∧ m ≤ L ∧ Lim w' A m c zs ∧ Bare zs ∧ val zs = V ∧ Below w.heap.size w w'



end Go.Proofs.YtmmeejofepmgaaaGreatDoor
/- The walks of round.laid, checked, To. -/
namespace Go.Proofs.YtmmeejofepmgaaaGreatDoor
open Go.RowKit

theorem nO_shift (g : Bool) {V k : Nat} {e : Int} (h1 : -1073741824 ≤ e) (h2 : e + k ≤ 1073741824) (hV : V ≠ 0) : nO g (V * 2 ^ k) e = nO g V (e + k) := by
  have hV2 : V * 2 ^ k ≠ 0 := Nat.mul_ne_zero hV (Nat.pos_iff_ne_zero.1 (Nat.two_pow_pos _))
  obtain ⟨m, hm⟩ := low_spec (Nat.pos_of_ne_zero hV)
  have hl : low (V * 2 ^ k) = low V + k := low_eq (m := m) (by
    generalize low V = l at hm
    rw [hm, Nat.pow_add, Nat.mul_assoc, Nat.mul_comm (2 * m + 1), ← Nat.mul_assoc])
  rw [nO_pos g _ hV2, nO_pos g _ hV, held_id h1 (by omega), held_id (by omega) h2, hl, Nat.pow_add, Nat.mul_div_mul_right _ _ (Nat.two_pow_pos _)]
  congr 1
  omega
/-- So many units, as bits. -/
theorem ex_round {L U : Nat} {u : Int} (hu : u = (L : Int) - 1074) (hL : L ≤ 2045) (hU : U ≤ 9007199254740992) (h2 : 0 < L → 4503599627370496 ≤ U) :
    exD (nO false U u) = if L * 4503599627370496 + U = 9218868437227405312 then (0, false) else (L * 4503599627370496 + U, true) := by
  have own : ∀ (L' U' : Nat), L' ≤ 2045 → U' < 9007199254740992 → (0 < L' → 4503599627370496 ≤ U') → exD (nO false U' ((L' : Int) - 1074)) = (L' * 4503599627370496 + U', true) := by
    intro L' U' hL' hU' h2'
    obtain ⟨f1, f2, f3, f4, f5⟩ := f_of (L := L') (M := U') false (X := L' * 4503599627370496 + U') hU' h2' hL' (by simp)
    have hb := exD_back f1 f2
    unfold fO at hb
    rw [f3, f5, fe, f4] at hb
    rw [hb]
    split
    · rename_i h0
      have : L' = 0 := by
        rcases Nat.eq_zero_or_pos L' with h | h
        · exact h
        · have := h2' h; omega
      rw [h0, this]
    · rfl
  rcases Nat.lt_or_ge U 9007199254740992 with h | h
  · rw [if_neg (by omega), hu]
    exact own L U hL h h2
  · have e0 : U = 9007199254740992 := by omega
    subst e0
    have e1 : nO false 9007199254740992 u = nO false 4503599627370496 (((L + 1 : Nat) : Int) - 1074) := by
      have := nO_shift false (V := 4503599627370496) (k := 1) (e := u) (by omega) (by omega) (by decide)
      rw [show (4503599627370496 : Nat) * 2 ^ 1 = 9007199254740992 from by decide] at this
      rw [this]
      congr 1
      omega
    rcases Nat.lt_or_ge L 2045 with hL' | hL'
    · rw [if_neg (by omega), e1, own (L + 1) 4503599627370496 (by omega) (by decide) (fun _ => Nat.le_refl _), show (L + 1) * 4503599627370496 + 4503599627370496 = L * 4503599627370496 + 9007199254740992 by omega]
    · have e2 : L = 2045 := by omega
      subst e2
      rw [if_pos (by decide), e1]
      have e3 := nO_shift false (V := 1) (k := 52) (e := ((2045 + 1 : Nat) : Int) - 1074) (by decide) (by decide) (by decide)
      rw [show 1 * 2 ^ 52 = 4503599627370496 from by decide] at e3
      rw [e3]
      decide
theorem mk_units {U : Nat} {u : Int} (h1 : -1074 ≤ u) (h2 : u ≤ 971) (hU : U ≤ 9007199254740992) : mk false U u = some (nO false U u) := by
  rw [mk_nO]
  by_cases h0 : U = 0
  · subst h0; rfl
  · have hl := low_le_blen U
    have hb : blen U ≤ 54 := (blen_le_iff (k := 54)).2 (by omega)
    have hh : held u = u := held_id (by omega) (by omega)
    have hV : U / 2 ^ low U ≠ 0 := fun h => h0 (odd_part_zero.1 h)
    rw [nO_pos false u h0]
    show toldD false (U / 2 ^ low U) (held u + low U) = _
    rw [toldD, if_neg hV, if_neg (by omega)]
theorem nO_bd (U : Nat) (u : Int) (h1 : -1074 ≤ u) (h2 : u ≤ 971) (hU : U ≤ 9007199254740992) : nO (nO false U u).neg (nO false U u).V (nO false U u).e = nO false U u := by
  have hf := (mk_fine (mk_units h1 h2 hU)).1
  exact nO_self (nO_odd false U u) (by have := hf.1; omega) (by have := hf.2.1; omega)

/-- The units' place and number. -/
theorem ru_facts {V : Nat} {e : Int} (hV : V ≠ 0) (h1 : -1073741824 ≤ e) (h2 : e ≤ 1073741824) (ht : rtop V e ≤ 1023) :
    ∃ L : Nat, (ru V e + 1074).toNat = L ∧ ru V e = (L : Int) - 1074 ∧ L ≤ 2045 ∧ e ≤ ru V e + 63 ∧ rU V e (ru V e) < 9007199254740992 ∧ (0 < L → 4503599627370496 ≤ rU V e (ru V e)) := by
  obtain ⟨a, b, c, _, _⟩ := rnd_low hV h1 h2 ht
  have hB := blen_pos hV
  have hr : ru V e = max (rtop V e - 52) (-1074) := rfl
  have hrt : rtop V e = (blen V : Int) - 1 + e := rfl
  refine ⟨(ru V e + 1074).toNat, rfl, by omega, by omega, by omega, ?_⟩
  have hlt := lt_blen V
  have hge := blen_le hV
  generalize ru V e = u at hr ⊢
  rw [hrt] at hr ht
  clear a b c hrt
  by_cases hue : u ≤ e
  · obtain ⟨k, hk⟩ : ∃ k, (e - u).toNat = k := ⟨_, rfl⟩
    rw [rU, if_pos hue, hk]
    have hbl := blen_shl (n := k) hV
    refine ⟨(blen_le_iff (k := 53)).1 (by rw [hbl]; omega), fun h => ?_⟩
    have h5 : blen (V * 2 ^ k) = 53 := by rw [hbl]; omega
    have h6 := blen_le (x := V * 2 ^ k) (fun h0 => by rw [h0] at h5; cases h5)
    rw [h5] at h6
    exact h6
  · obtain ⟨k, hk⟩ : ∃ k, (u - e - 1).toNat = k := ⟨_, rfl⟩
    rw [rU, if_neg hue, hk, Nat.div_div_eq_div_mul, ← Nat.pow_succ]
    constructor
    · rw [Nat.div_lt_iff_lt_mul (Nat.two_pow_pos _), show (9007199254740992 : Nat) = 2 ^ 53 from by decide, ← Nat.pow_add]
      exact blen_le_iff.1 (by omega)
    · intro h
      rw [Nat.le_div_iff_mul_le (Nat.two_pow_pos _), show (4503599627370496 : Nat) = 2 ^ 52 from by decide, ← Nat.pow_add, show 52 + (k + 1) = blen V - 1 by omega]
      exact hge


end Go.Proofs.YtmmeejofepmgaaaGreatDoor
/- The walks of round.checked and round.To. -/
namespace Go.Proofs.YtmmeejofepmgaaaGreatDoor
open Go.RowKit

/-- What can be rounded. -/
def chk (o : Option Dy) (more : Bool) (dir : Int) : Option Dy :=
  if 0 ≤ dir ∧ dir ≤ 3 then (match o with | none => none | some d => if d.V = 0 ∧ more = true then none else some d) else none
def ChTold (w : World) (o : Option Dy) (L : Nat) (e : Ending) (w' : World) : Prop :=
  match o with
  | none => e = .returned (.tuple #[.agg #[.bool false, .slice none 0 0, .int .i64 0], .int .i64 1]) ∧ Below w.heap.size w w'
  | some d => ∃ A m c zs, e = .returned (.tuple #[.agg #[.bool d.neg, .slice A m c, .int .i64 d.e], .int .i64 0]) ∧ m ≤ L ∧ Lim w' A m c zs ∧ Bare zs ∧ val zs = d.V ∧ Below w.heap.size w w'


/-- What To tells. -/
def toR (g : Bool) (V : Nat) (e : Int) (more : Bool) (dir : Int) : Nat × Nat × Int :=
  match chk (mk g V e) more dir with
  | none => (0, 0, 1)
  | some d => if d.V = 0 then (0, 0, 0) else ((rndO d.neg d.V d.e more dir).1, (rndO d.neg d.V d.e more dir).2, 0)


end Go.Proofs.YtmmeejofepmgaaaGreatDoor
/- Rounding keeps order; it is mirrored; what bits are worth stays; a little more is as a thousandth. -/
namespace Go.Proofs.YtmmeejofepmgaaaGreatDoor
open Go.RowKit

theorem toldD_self {d : Dy} (h : Fine d) : toldD d.neg d.V d.e = some d := by
  obtain ⟨g, V, e⟩ := d
  unfold toldD
  by_cases h0 : V = 0
  · obtain ⟨h1, h2⟩ := h.2.2 h0
    simp only at h1 h2 h0 ⊢
    rw [if_pos h0, h1, h2, h0]
  · have h1 : -1073741824 ≤ e := h.1
    have h2 : e ≤ 1073741824 := h.2.1
    simp only
    rw [if_neg h0, if_neg (by omega)]
/-- What is bare stays. -/
theorem mk_self {g : Bool} {V : Nat} {e : Int} {d : Dy} (h : mk g V e = some d) : mk d.neg d.V d.e = some d := by
  have hf := (mk_fine h).1
  have hO : Odd d := by rw [← mk_is h]; exact nO_odd g V e
  have hs : nO d.neg d.V d.e = d := nO_self hO (by have := hf.1; omega) (by have := hf.2.1; omega)
  rw [mk_nO, hs]
  exact toldD_self hf
theorem mk_pos {g : Bool} {V : Nat} {e : Int} {d : Dy} (h : mk g V e = some d) (hV : V ≠ 0) : d.neg = g ∧ d.V ≠ 0 ∧ sz d.V d.e = sz V e := by
  obtain ⟨h1, h2, h3, _⟩ := mk_fine h
  have h4 := (toldD_fine h).2.2 (fun h0 => hV (odd_part_zero.1 h0))
  refine ⟨h4.1, fun h0 => hV (h3.1 h0), ?_⟩
  have h5 : ∀ (g : Bool) (V : Nat) (e : Int), (dw g V e).natAbs = sz V e := fun g V e => by cases g <;> simp [dw]
  rw [← h5 d.neg, ← h5 g, h2]

theorem toR_some {g : Bool} {V : Nat} {e : Int} {more : Bool} {dir : Int} {d : Dy} (hd : 0 ≤ dir ∧ dir ≤ 3) (h : mk g V e = some d) (hV : d.V ≠ 0) :
    toR g V e more dir = ((rndO d.neg d.V d.e more dir).1, (rndO d.neg d.V d.e more dir).2, 0) := by
  unfold toR chk
  rw [if_pos hd, h]
  simp only
  rw [if_neg (fun h0 => hV h0.1)]
  simp only
  rw [if_neg hV]
theorem toR_zero {g : Bool} {V : Nat} {e : Int} {dir : Int} {d : Dy} (hd : 0 ≤ dir ∧ dir ≤ 3) (h : mk g V e = some d) (hV : d.V = 0) : toR g V e false dir = (0, 0, 0) := by
  unfold toR chk
  rw [if_pos hd, h]
  simp only
  rw [if_neg (fun h0 => by cases h0.2)]
  simp only
  rw [if_pos hV]
/-- No error: the dyad can be bare. -/
theorem toR_ok {g : Bool} {V : Nat} {e : Int} {more : Bool} {dir : Int} {x f : Nat} (h : toR g V e more dir = (x, f, 0)) :
    ∃ d, mk g V e = some d ∧ (0 ≤ dir ∧ dir ≤ 3) ∧ ((d.V = 0 ∧ x = 0 ∧ f = 0) ∨ (d.V ≠ 0 ∧ rndO d.neg d.V d.e more dir = (x, f))) := by
  unfold toR at h
  cases hc : chk (mk g V e) more dir with
  | none => rw [hc] at h; simp at h
  | some d =>
    rw [hc] at h
    simp only at h
    unfold chk at hc
    split at hc
    · rename_i hd
      split at hc
      · cases hc
      · rename_i d' hd'
        split at hc
        · cases hc
        · obtain rfl := Option.some.inj hc
          refine ⟨d', hd', hd, ?_⟩
          by_cases h0 : d'.V = 0
          · rw [if_pos h0] at h
            obtain ⟨h1, h2⟩ := Prod.mk.inj h
            exact Or.inl ⟨h0, h1.symm, (Prod.mk.inj h2).1.symm⟩
          · rw [if_neg h0] at h
            obtain ⟨h1, h2⟩ := Prod.mk.inj h
            exact Or.inr ⟨h0, Prod.ext h1 (Prod.mk.inj h2).1⟩
    · cases hc

/-- The size of what comes out. -/
noncomputable def magS (g : Bool) (S : Nat) (dir : Int) (X : Nat) : Nat := if X = 9218868437227405312 then overM g dir else upX g dir X (hS S X) (bS S X || false)
theorem upX_inf {g : Bool} {dir : Int} {X : Nat} {h b : Bool} (hX : X ≠ 9218868437227405312) (hu : upX g dir X h b = 9218868437227405312) : overM g dir = 9218868437227405312 := by
  unfold upX at hu
  unfold overM
  cases ha : awy g dir (decide (X % 2 = 1)) h b with
  | false => rw [ha] at hu; exact absurd hu hX
  | true => rw [awy_all ha, if_pos rfl]
theorem rndS_mag (g : Bool) (S : Nat) (dir : Int) (X : Nat) : (rndS g S false dir X).1 = sgn g (magS g S dir X) := by
  unfold rndS magS
  by_cases h : X = 9218868437227405312
  · rw [if_pos h, if_pos h]; rfl
  · rw [if_neg h, if_neg h]
    unfold rfin
    by_cases hu : upX g dir X (hS S X) (bS S X || false) = 9218868437227405312
    · rw [if_pos hu, hu]
      show sgn g (overM g dir) = _
      rw [upX_inf h hu]
    · rw [if_neg hu]
theorem awy_none {g : Bool} {dir : Int} {o h b : Bool} (h0 : awy g dir true true true = false) : awy g dir o h b = false := by
  cases ha : awy g dir o h b with
  | false => rfl
  | true => rw [awy_all ha] at h0; cases h0
theorem overM_le (g : Bool) (dir : Int) : overM g dir ≤ 9218868437227405312 := by unfold overM; split <;> omega
theorem upX_le {g : Bool} {dir : Int} {X : Nat} {h b : Bool} : X ≤ upX g dir X h b ∧ upX g dir X h b ≤ X + 1 := by
  unfold upX; cases awy g dir (decide (X % 2 = 1)) h b <;> simp
theorem magS_le {g : Bool} {S : Nat} {dir : Int} {X : Nat} (hX : X ≤ 9218868437227405312) : magS g S dir X ≤ 9218868437227405312 := by
  unfold magS
  split
  · exact overM_le g dir
  · have := (upX_le (g := g) (dir := dir) (X := X) (h := hS S X) (b := (bS S X || false))).2
    omega
theorem magS_mono {g : Bool} {S T : Nat} {dir : Int} {X Y : Nat} (hX : IsLow S X) (hY : IsLow T Y) (h : S ≤ T) : magS g S dir X ≤ magS g T dir Y := by
  have hXY := hX.mono hY h
  have hYi := hY.1
  by_cases hYI : Y = 9218868437227405312
  · have e2 : magS g T dir Y = overM g dir := by unfold magS; rw [if_pos hYI]
    rw [e2]
    by_cases hXI : X = 9218868437227405312
    · have e1 : magS g S dir X = overM g dir := by unfold magS; rw [if_pos hXI]
      rw [e1]; exact Nat.le_refl _
    · cases ha : awy g dir true true true with
      | true =>
        have e3 : overM g dir = 9218868437227405312 := by unfold overM; rw [ha, if_pos rfl]
        rw [e3]; exact magS_le hX.1
      | false =>
        have e3 : overM g dir = 9218868437227405311 := by unfold overM; rw [ha]; rfl
        have e1 : magS g S dir X = X := by unfold magS upX; rw [if_neg hXI, awy_none ha]; rfl
        rw [e3, e1]; omega
  · have hXI : X ≠ 9218868437227405312 := by omega
    unfold magS
    rw [if_neg hYI, if_neg hXI]
    rcases Nat.lt_or_ge X Y with hlt | hge
    · have h1 := (upX_le (g := g) (dir := dir) (X := X) (h := hS S X) (b := (bS S X || false))).2
      have h2 := (upX_le (g := g) (dir := dir) (X := Y) (h := hS T Y) (b := (bS T Y || false))).1
      omega
    · obtain rfl : X = Y := by omega
      have l1 := hX.2.1
      have l2 := hX.2.2 (by omega)
      have hlt := vX_lt (X := X) (by omega)
      unfold upX
      apply Nat.add_le_add_left
      cases ha : awy g dir (decide (X % 2 = 1)) (hS S X) (bS S X || false) with
      | false => exact Nat.zero_le _
      | true =>
        have key : awy g dir (decide (X % 2 = 1)) (hS T X) (bS T X || false) = true := by
          rw [Bool.or_false] at ha ⊢
          generalize decide (X % 2 = 1) = od at ha ⊢
          have hb : hS S X = true → hS T X = true := fun h1 => by
            have := of_decide_eq_true h1
            exact decide_eq_true (by omega)
          have hbb : hS S X = true → bS S X = true → bS T X = true := fun h1 h2 => by
            have k1 := of_decide_eq_true h1
            have k2 := of_decide_eq_true h2
            exact decide_eq_true (by omega)
          have hor : (hS S X || bS S X) = true → (hS T X || bS T X) = true := fun h1 => by
            rcases Bool.or_eq_true _ _ ▸ h1 with h2 | h2
            · rw [hb h2]; rfl
            · have k2 := of_decide_eq_true h2
              by_cases k3 : vX X + vX (X + 1) ≤ 2 * T
              · rw [show hS T X = true from decide_eq_true k3]; rfl
              · rw [show bS T X = true from decide_eq_true (by omega)]; simp
          unfold awy at ha ⊢
          split
          · rename_i h0
            rw [if_pos h0] at ha
            rw [Bool.and_eq_true] at ha ⊢
            refine ⟨hb ha.1, ?_⟩
            rw [Bool.or_eq_true] at ha ⊢
            rcases ha.2 with h2 | h2
            · exact Or.inl (hbb ha.1 h2)
            · exact Or.inr h2
          · rename_i h0
            rw [if_neg h0] at ha
            split
            · rename_i h1
              rw [if_pos h1] at ha
              rw [Bool.and_eq_true] at ha ⊢
              exact ⟨ha.1, hor ha.2⟩
            · rename_i h1
              rw [if_neg h1] at ha
              split
              · rename_i h2
                rw [if_pos h2] at ha
                rw [Bool.and_eq_true] at ha ⊢
                exact ⟨ha.1, hor ha.2⟩
              · rename_i h2
                rw [if_neg h2] at ha
                exact ha
        rw [key]
        exact Nat.le_refl _

/-- Bits as numbers in their order. -/
def rv (x : Nat) : Int := if fng x then -((x % 9223372036854775808 : Nat) : Int) else (x : Int)
theorem rv_sgn {g : Bool} {Y : Nat} (h : Y ≤ 9218868437227405312) : rv (sgn g Y) = if g then -(Y : Int) else (Y : Int) := by
  cases g with
  | false =>
    have e : sgn false Y = Y := by unfold sgn; simp
    rw [e]
    unfold rv fng
    rw [decide_eq_false (by omega)]
    rfl
  | true =>
    have e : sgn true Y = 9223372036854775808 + Y := rfl
    rw [e]
    unfold rv fng
    rw [decide_eq_true (by omega)]
    simp only [↓reduceIte]
    omega
theorem rnd_rv {d : Dy} (hf : Fine d) (hV : d.V ≠ 0) (dir : Int) : rv (rndO d.neg d.V d.e false dir).1 = if d.neg then -((magS d.neg (sz d.V d.e) dir (lowX d.V d.e) : Nat) : Int) else ((magS d.neg (sz d.V d.e) dir (lowX d.V d.e) : Nat) : Int) := by
  have hl := low_is hV hf.1 hf.2.1
  rw [rndO_S d.neg false dir hV hf.1 hf.2.1 hl, rndS_mag, rv_sgn (magS_le hl.1)]
theorem rv_zero : rv 0 = 0 := by decide
/-- Rounding keeps order. -/
theorem r_mono {g k : Bool} {V U : Nat} {e e' dir : Int} {x f y f' : Nat} (h1 : toR g V e false dir = (x, f, 0)) (h2 : toR k U e' false dir = (y, f', 0)) (h : dw g V e ≤ dw k U e') : rv x ≤ rv y := by
  obtain ⟨d, m1, hd, c1⟩ := toR_ok h1
  obtain ⟨d', m2, _, c2⟩ := toR_ok h2
  obtain ⟨f1, w1, _, _⟩ := mk_fine m1
  obtain ⟨f2, w2, _, _⟩ := mk_fine m2
  rw [← w1, ← w2] at h
  have r1 : (d.V = 0 ∧ rv x = 0) ∨ (d.V ≠ 0 ∧ rv x = if d.neg then -((magS d.neg (sz d.V d.e) dir (lowX d.V d.e) : Nat) : Int) else ((magS d.neg (sz d.V d.e) dir (lowX d.V d.e) : Nat) : Int)) := by
    rcases c1 with ⟨a, b, _⟩ | ⟨a, b⟩
    · exact Or.inl ⟨a, by rw [b]; exact rv_zero⟩
    · have := rnd_rv f1 a dir
      rw [b] at this
      exact Or.inr ⟨a, this⟩
  have r2 : (d'.V = 0 ∧ rv y = 0) ∨ (d'.V ≠ 0 ∧ rv y = if d'.neg then -((magS d'.neg (sz d'.V d'.e) dir (lowX d'.V d'.e) : Nat) : Int) else ((magS d'.neg (sz d'.V d'.e) dir (lowX d'.V d'.e) : Nat) : Int)) := by
    rcases c2 with ⟨a, b, _⟩ | ⟨a, b⟩
    · exact Or.inl ⟨a, by rw [b]; exact rv_zero⟩
    · have := rnd_rv f2 a dir
      rw [b] at this
      exact Or.inr ⟨a, this⟩
  obtain ⟨dg, dV, dE⟩ := d
  obtain ⟨kg, kV, kE⟩ := d'
  simp only at *
  unfold dw at h
  have p1 : dV ≠ 0 → 0 < sz dV dE := fun h => sz_pos dE h
  have p2 : kV ≠ 0 → 0 < sz kV kE := fun h => sz_pos kE h
  have z1 : dV = 0 → sz dV dE = 0 := fun h => by rw [h, sz_zero]
  have z2 : kV = 0 → sz kV kE = 0 := fun h => by rw [h, sz_zero]
  have L1 : dV ≠ 0 → IsLow (sz dV dE) (lowX dV dE) := fun h => low_is h f1.1 f1.2.1
  have L2 : kV ≠ 0 → IsLow (sz kV kE) (lowX kV kE) := fun h => low_is h f2.1 f2.2.1
  have M1 : ∀ b : Bool, dV ≠ 0 → kV ≠ 0 → sz dV dE ≤ sz kV kE → magS b (sz dV dE) dir (lowX dV dE) ≤ magS b (sz kV kE) dir (lowX kV kE) := fun b a c l => magS_mono (L1 a) (L2 c) l
  have M2 : ∀ b : Bool, dV ≠ 0 → kV ≠ 0 → sz kV kE ≤ sz dV dE → magS b (sz kV kE) dir (lowX kV kE) ≤ magS b (sz dV dE) dir (lowX dV dE) := fun b a c l => magS_mono (L2 c) (L1 a) l
  generalize sz dV dE = S1 at *
  generalize sz kV kE = S2 at *
  clear L1 L2 c1 c2 m1 m2 w1 w2 f1 f2 h1 h2
  rcases r1 with ⟨a1, b1⟩ | ⟨a1, b1⟩ <;> rcases r2 with ⟨a2, b2⟩ | ⟨a2, b2⟩
  · omega
  · have := p2 a2
    have := z1 a1
    rw [b1, b2]
    cases kg <;> cases dg <;> simp only [Bool.false_eq_true, ↓reduceIte] at h ⊢ <;> omega
  · have := p1 a1
    have := z2 a2
    rw [b1, b2]
    cases kg <;> cases dg <;> simp only [Bool.false_eq_true, ↓reduceIte] at h ⊢ <;> omega
  · have := p1 a1
    have := p2 a2
    rw [b1, b2]
    cases kg <;> cases dg <;> simp only [Bool.false_eq_true, ↓reduceIte] at h ⊢
    · have := M1 false a1 a2 (by omega); omega
    · omega
    · omega
    · have := M2 true a1 a2 (by omega); omega

/-- Up and Down are each other's mirror. -/
def mir (dir : Int) : Int := if dir = 2 then 3 else if dir = 3 then 2 else dir
theorem mir_bd {dir : Int} (h : 0 ≤ dir ∧ dir ≤ 3) : 0 ≤ mir dir ∧ mir dir ≤ 3 := by unfold mir; split; decide; split; decide; exact h
theorem awy_mir (g : Bool) (dir : Int) (o h b : Bool) : awy (!g) (mir dir) o h b = awy g dir o h b := by
  unfold awy mir
  by_cases h2 : dir = 2
  · subst h2; cases g <;> rfl
  · by_cases h3 : dir = 3
    · subst h3; cases g <;> rfl
    · rw [if_neg h2, if_neg h3, if_neg h2, if_neg h3]
      split <;> rfl
theorem rnd_mir (g : Bool) {V : Nat} {e : Int} (more : Bool) (dir : Int) (hV : V ≠ 0) (h1 : -1073741824 ≤ e) (h2 : e ≤ 1073741824) : ∃ Y F, Y ≤ 9218868437227405312 ∧ rndO g V e more dir = (sgn g Y, F) ∧ rndO (!g) V e more (mir dir) = (sgn (!g) Y, F) := by
  have ho : overM (!g) (mir dir) = overM g dir := by unfold overM; rw [awy_mir]
  have hu : ∀ X h b, upX (!g) (mir dir) X h b = upX g dir X h b := fun X h b => by unfold upX; rw [awy_mir]
  unfold rndO
  by_cases ht : 1023 < rtop V e
  · rw [if_pos ht, if_pos ht]
    exact ⟨overM g dir, 5, overM_le g dir, rfl, by unfold overO; rw [ho]⟩
  · have hX := (rnd_low hV h1 h2 (by omega)).1
    rw [if_neg ht, if_neg ht]
    unfold rfin
    rw [hu]
    have hle := (upX_le (g := g) (dir := dir) (X := rX V e) (h := rH V e (ru V e)) (b := (rB V e (ru V e) || more))).2
    generalize upX g dir (rX V e) (rH V e (ru V e)) (rB V e (ru V e) || more) = Y at *
    by_cases hY : Y = 9218868437227405312
    · rw [if_pos hY, if_pos hY]
      exact ⟨overM g dir, 5, overM_le g dir, rfl, by unfold overO; rw [ho]⟩
    · rw [if_neg hY, if_neg hY]
      exact ⟨Y, _, by omega, rfl, rfl⟩
theorem xor_sign (Y : Nat) (hY : Y < 9223372036854775808) : (9223372036854775808 + Y) ^^^ Y = 9223372036854775808 := by
  have h : 9223372036854775808 + Y = 9223372036854775808 ^^^ Y := by
    rw [show 9223372036854775808 + Y = 9223372036854775808 ||| Y from Nat.shiftLeft_add_eq_or_of_lt (i := 63) (b := Y) (show Y < 2 ^ 63 from hY) 1]
    apply Nat.eq_of_testBit_eq
    intro i
    rw [Nat.testBit_or, Nat.testBit_xor]
    by_cases hi : i = 63
    · subst hi
      rw [Nat.testBit_lt_two_pow (x := Y) (i := 63) hY]
      simp
    · have : Nat.testBit 9223372036854775808 i = false := by
        rw [show (9223372036854775808 : Nat) = 2 ^ 63 from by decide, Nat.testBit_two_pow]
        exact decide_eq_false (by omega)
      rw [this]; simp
  rw [h, Nat.xor_assoc, Nat.xor_self, Nat.xor_zero]
/-- The mirrored number is rounded to the mirrored bits. -/
theorem r_mirror {g : Bool} {V : Nat} {e dir : Int} {x f : Nat} {b : Dy} (h : toR g V e false dir = (x, f, 0)) (hb : mk (!g) V e = some b) :
    ∃ z, toR b.neg b.V b.e false (mir dir) = (z, f, 0) ∧ x < 18446744073709551616 ∧ z < 18446744073709551616 ∧ ((x ≠ 0 ∧ x ^^^ z = 9223372036854775808) ∨ (x = 0 ∧ (z = 0 ∨ z = 9223372036854775808))) := by
  obtain ⟨d, hd, hdir, c⟩ := toR_ok h
  have hb' := mk_self hb
  have hm := mir_bd hdir
  have hfd := mk_fine hd
  have hfb := mk_fine hb
  by_cases hV : V = 0
  · have z1 : d.V = 0 := hfd.2.2.1.2 hV
    have z2 : b.V = 0 := hfb.2.2.1.2 hV
    rcases c with ⟨_, rfl, rfl⟩ | ⟨c1, _⟩
    · exact ⟨0, toR_zero hm hb' z2, by decide, by decide, Or.inr ⟨rfl, Or.inl rfl⟩⟩
    · exact absurd z1 c1
  · obtain ⟨d1, d2, d3⟩ := mk_pos hd hV
    obtain ⟨b1, b2, b3⟩ := mk_pos hb hV
    have hdb : d.V = b.V ∧ d.e = b.e := by
      have e1 := mk_is hd
      have e2 := mk_is hb
      rw [nO_pos _ _ hV] at e1 e2
      rw [← e1, ← e2]
      exact ⟨rfl, rfl⟩
    rcases c with ⟨c1, _, _⟩ | ⟨_, c2⟩
    · exact absurd c1 d2
    · obtain ⟨Y, F, hY, r1, r2⟩ := rnd_mir g (V := b.V) (e := b.e) false dir b2 hfb.1.1 hfb.1.2.1
      rw [d1, hdb.1, hdb.2, r1] at c2
      obtain ⟨rfl, rfl⟩ := Prod.mk.inj c2
      rw [← b1] at r2
      refine ⟨sgn b.neg Y, ?_, ?_, ?_, ?_⟩
      · rw [toR_some hm hb' b2, r2]
      · unfold sgn; split <;> omega
      · unfold sgn; split <;> omega
      · rw [b1]
        cases g with
        | false =>
          have e1 : sgn false Y = Y := by unfold sgn; simp
          have e2 : sgn (!false) Y = 9223372036854775808 + Y := rfl
          rw [e1, e2]
          by_cases h0 : Y = 0
          · exact Or.inr ⟨h0, Or.inr (by omega)⟩
          · exact Or.inl ⟨h0, by rw [Nat.xor_comm]; exact xor_sign Y (by omega)⟩
        | true =>
          have e1 : sgn (!true) Y = Y := by unfold sgn; simp
          have e2 : sgn true Y = 9223372036854775808 + Y := rfl
          rw [e1, e2]
          exact Or.inl ⟨by omega, xor_sign Y (by omega)⟩

/-- What bits are worth stays. -/
theorem fO_size {b : Nat} (hf : Fnt b) : sz (fO b).V (fO b).e = vX (b % 9223372036854775808) := by
  have h1 := sz_told (mk_fin hf)
  have h2 : sz (fO b).V (fO b).e = sz (fm b) (fe b) := by
    have : ((sz (fO b).V (fO b).e : Nat) : Int) = (sz (fm b) (fe b) : Int) := h1
    omega
  rw [h2]
  obtain ⟨p1, p2, p3, p4⟩ := f_parts b
  have h3 := vX_parts (L := fE b) (U := fm b) (X := b % 9223372036854775808) p1 (by omega) p3 (p4 hf)
  rw [h3, sz]
  congr 2
  have h4 := sh_held (fe b)
  rw [fe_held hf] at h4
  have h5 : fe b = (fE b : Int) - 1074 := rfl
  have h6 := kb_eq
  omega
theorem r_fix {b : Nat} {dir : Int} (hb : b < 18446744073709551616) (hf : Fnt b) (hd : 0 ≤ dir ∧ dir ≤ 3) :
    ∃ c, toR (fO b).neg (fO b).V (fO b).e false dir = (c, 0, 0) ∧ c < 18446744073709551616 ∧ (c = b ∨ (b = 9223372036854775808 ∧ c = 0)) := by
  have hmk := mk_self (mk_fin hf)
  have hfin := (mk_fine hmk).1
  by_cases h0 : fm b = 0
  · rw [fO_zero h0] at hmk ⊢
    refine ⟨0, toR_zero hd hmk rfl, by decide, ?_⟩
    have hs := f_sign hb
    have hp := (f_parts b).1
    have hp3 := (f_parts b).2.2.1
    rw [h0] at hp hp3
    have : fE b = 0 := by
      rcases Nat.eq_zero_or_pos (fE b) with h | h
      · exact h
      · have := hp3 h; omega
    rw [this] at hp
    by_cases hn : fng b = true
    · rw [hn, if_pos rfl] at hs
      exact Or.inr ⟨by omega, rfl⟩
    · rw [if_neg hn] at hs
      exact Or.inl (by omega)
  · obtain ⟨k1, k2, _⟩ := mk_pos (mk_fin hf) h0
    have hX : b % 9223372036854775808 < 9218868437227405312 := by
      have h9 : fex b ≠ 2047 := hf
      have := fex_lt b
      unfold fex at *
      omega
    have hlt := vX_lt hX
    have hL : IsLow (sz (fO b).V (fO b).e) (b % 9223372036854775808) := by
      rw [fO_size hf]
      exact ⟨by omega, Nat.le_refl _, fun _ => hlt⟩
    have hr := rndO_S (fO b).neg false dir k2 hfin.1 hfin.2.1 hL
    rw [fO_size hf] at hr
    have hh : hS (vX (b % 9223372036854775808)) (b % 9223372036854775808) = false := decide_eq_false (by omega)
    have hbb : bS (vX (b % 9223372036854775808)) (b % 9223372036854775808) = false := decide_eq_false (by omega)
    have hr2 : rndO (fO b).neg (fO b).V (fO b).e false dir = (b, 0) := by
      rw [hr, rndS, if_neg (by omega), hh, hbb, rfin, upX]
      show (if b % 9223372036854775808 + (awy (fO b).neg dir _ false false).toNat = 9218868437227405312 then _ else (sgn (fO b).neg (b % 9223372036854775808 + (awy (fO b).neg dir _ false false).toNat), fl false false _)) = _
      rw [awy_exact]
      show (if b % 9223372036854775808 + 0 = 9218868437227405312 then _ else (sgn (fO b).neg (b % 9223372036854775808 + 0), 0)) = _
      rw [if_neg (by omega), Nat.add_zero, k1]
      have hs := f_sign hb
      unfold sgn
      rw [← hs]
    exact ⟨b, by rw [toR_some hd hmk k2, hr2], hb, Or.inl rfl⟩
end Go.Proofs.YtmmeejofepmgaaaGreatDoor
/- Neighbours, middles and breakpoints of bits: numbers alone. -/
namespace Go.Proofs.YtmmeejofepmgaaaGreatDoor
open Go.RowKit

/-- The other sign. -/
def flp (b : Nat) : Nat := if fng b then b - 9223372036854775808 else b + 9223372036854775808
theorem flp_facts {b : Nat} (hb : b < 18446744073709551616) : flp b < 18446744073709551616 ∧ flp b % 9223372036854775808 = b % 9223372036854775808 ∧ fng (flp b) = !fng b ∧ flp (flp b) = b := by
  by_cases h : 9223372036854775808 ≤ b
  · have e1 : fng b = true := decide_eq_true h
    have e2 : flp b = b - 9223372036854775808 := by rw [flp, e1, if_pos rfl]
    have e3 : fng (flp b) = false := decide_eq_false (by omega)
    exact ⟨by omega, by omega, by rw [e3, e1]; rfl, by rw [flp, e3, if_neg (by decide)]; omega⟩
  · have e1 : fng b = false := decide_eq_false h
    have e2 : flp b = b + 9223372036854775808 := by rw [flp, e1, if_neg (by decide)]
    have e3 : fng (flp b) = true := decide_eq_true (by omega)
    exact ⟨by omega, by omega, by rw [e3, e1]; rfl, by rw [flp, e3, if_pos rfl]; omega⟩
theorem size_same {a b : Nat} (h : a % 9223372036854775808 = b % 9223372036854775808) : fm a = fm b ∧ fE a = fE b ∧ fe a = fe b ∧ (Fnt a ↔ Fnt b) ∧ fkd a = fkd b := by
  have e1 : fex a = fex b := by unfold fex; omega
  have e2 : ffr a = ffr b := by unfold ffr; omega
  unfold fe fE fm Fnt fkd
  rw [e1, e2]
  exact ⟨rfl, rfl, rfl, Iff.rfl, rfl⟩
theorem xor_two (b : Nat) (h : b < 9223372036854775808) : b ^^^ 9223372036854775808 = b + 9223372036854775808 := by
  have h1 : b ^^^ 9223372036854775808 = b ||| 9223372036854775808 := by
    apply Nat.eq_of_testBit_eq
    intro i
    rw [Nat.testBit_xor, Nat.testBit_or]
    by_cases hi : i = 63
    · subst hi
      rw [Nat.testBit_lt_two_pow (show b < 2 ^ 63 from h)]
      rfl
    · have : (9223372036854775808 : Nat).testBit i = false := by
        rw [show (9223372036854775808 : Nat) = 2 ^ 63 from by decide, Nat.testBit_two_pow]
        exact decide_eq_false (fun h => hi h.symm)
      rw [this]; simp
  rw [h1]
  have := Nat.shiftLeft_add_eq_or_of_lt (i := 63) (b := b) (show b < 2 ^ 63 from h) 1
  rw [Nat.or_comm, Nat.add_comm]
  exact this.symm
theorem xor_flp (b : Nat) (hb : b < 18446744073709551616) : bits .xor .u64 (b : Int) 9223372036854775808 = (flp b : Int) := by
  have h := bits_xor_u64_nat b 9223372036854775808 hb (by decide)
  have h2 : b ^^^ 9223372036854775808 = flp b := by
    by_cases hg : 9223372036854775808 ≤ b
    · have e1 : fng b = true := decide_eq_true hg
      rw [flp, e1, if_pos rfl]
      have h3 := xor_two (b - 9223372036854775808) (by omega)
      rw [Nat.sub_add_cancel hg] at h3
      obtain ⟨a, rfl⟩ : ∃ a, b = a + 9223372036854775808 := ⟨b - 9223372036854775808, by omega⟩
      rw [Nat.add_sub_cancel] at h3 ⊢
      rw [← h3, Nat.xor_assoc, Nat.xor_self, Nat.xor_zero]
    · have e1 : fng b = false := decide_eq_false hg
      rw [flp, e1, if_neg (by decide)]
      exact xor_two b (by omega)
  rw [h2] at h
  exact h
theorem nsign_off (x : Nat) (hx : x < 18446744073709551616) : bits .andNot .u64 (x : Int) 9223372036854775808 = ((x % 9223372036854775808 : Nat) : Int) := by
  show IntKind.u64.wrap ((BitVec.ofInt 64 (x : Int) &&& ~~~BitVec.ofInt 64 ((9223372036854775808 : Nat) : Int)).toNat : Int) = _
  have h1 : (BitVec.ofInt 64 (x : Int)).toNat = x := by
    rw [BitVec.ofInt_natCast, BitVec.toNat_ofNat]; exact Nat.mod_eq_of_lt (by omega)
  have h2 : (BitVec.ofInt 64 ((9223372036854775808 : Nat) : Int)).toNat = 9223372036854775808 := by
    rw [BitVec.ofInt_natCast, BitVec.toNat_ofNat]
  rw [BitVec.toNat_and, BitVec.toNat_not, h1, h2, show 2 ^ 64 - 1 - 9223372036854775808 = 2 ^ 63 - 1 from by decide, Nat.and_two_pow_sub_one_eq_mod, IntKind.wrap_u64]
  omega

theorem fin_lt {b : Nat} (hf : Fnt b) : b % 9223372036854775808 < 9218868437227405312 := by
  have h1 : fex b ≠ 2047 := hf
  unfold fex at h1
  omega
theorem fin_of_lt {b : Nat} (h : b % 9223372036854775808 < 9218868437227405312) : Fnt b := by
  show fex b ≠ 2047
  unfold fex
  omega
theorem fm_zero_iff (b : Nat) : fm b = 0 ↔ b % 9223372036854775808 = 0 := by
  obtain ⟨p1, p2, p3, _⟩ := f_parts b
  constructor
  · intro h
    rcases Nat.eq_zero_or_pos (fE b) with h9 | h9
    · rw [h9, h] at p1; omega
    · have := p3 h9; omega
  · intro h; rw [h] at p1; omega

/-- What is odd and near comes out as it is. -/
theorem mk_odd {g : Bool} {V m : Nat} {e : Int} (h : V = 2 * m + 1) (h1 : -1073741824 ≤ e) (h2 : e ≤ 1073741824) : mk g V e = some ⟨g, V, e⟩ := by
  have hl : low V = 0 := low_eq (l := 0) (m := m) (by rw [h]; omega)
  unfold mk toldD
  rw [hl, Nat.pow_zero, Nat.div_one, held_id h1 h2, if_neg (by omega), show e + ((0 : Nat) : Int) = e by omega, if_neg (by omega)]
theorem odd_uniq {V U m k : Nat} {e f : Int} (hV : V = 2 * m + 1) (hU : U = 2 * k + 1) (h1 : -1073741824 ≤ e) (h2 : e ≤ 1073741824) (h3 : -1073741824 ≤ f) (h4 : f ≤ 1073741824) (h : sz V e = sz U f) : V = U ∧ e = f := by
  unfold sz at h
  have a1 : low (V * 2 ^ sh e) = sh e := low_eq (m := m) (by rw [hV, Nat.mul_comm])
  have a2 : low (U * 2 ^ sh f) = sh f := low_eq (m := k) (by rw [hU, Nat.mul_comm])
  have a3 : sh e = sh f := by rw [← a1, h, a2]
  rw [a3] at h
  have b1 := sh_eq h1 h2
  have b2 := sh_eq h3 h4
  exact ⟨Nat.eq_of_mul_eq_mul_right (Nat.two_pow_pos _) h, by omega⟩

/-- The middle of some bits' size and the next one. -/
def midD (b : Nat) : Dy := ⟨fng b, 2 * fm b + 1, fe b - 1⟩
theorem mid_mk {b : Nat} (hf : Fnt b) : mk (fng b) (2 * fm b + 1) (fe b - 1) = some (midD b) := by
  have := fe_bd hf
  exact mk_odd rfl (by omega) (by omega)
theorem half_mk (g : Bool) {b : Nat} (hf : Fnt b) : mk g 1 (fe b - 1) = some ⟨g, 1, fe b - 1⟩ := by
  have := fe_bd hf
  exact mk_odd (m := 0) rfl (by omega) (by omega)
theorem mid_add {b : Nat} (hf : Fnt b) : addO (some (fO b)) (some ⟨fng b, 1, fe b - 1⟩) = some (midD b) := by
  show addB (fO b) ⟨fng b, 1, fe b - 1⟩ = some (midD b)
  by_cases h0 : fm b = 0
  · rw [fO_zero h0]
    unfold addB midD
    rw [if_pos rfl, h0]
  · obtain ⟨k1, k2, k3⟩ := fO_pos hf h0
    have hbd := fe_bd hf
    have hm := (f_parts b).2.1
    have hp := odd_part (fm b)
    have hV0 : (fO b).V ≠ 0 := by rw [k2]; exact fun h => h0 (odd_part_zero.1 h)
    have hl : low (fm b) < 53 := by
      refine (low_lt_iff (Nat.pos_of_ne_zero h0)).2 ?_
      show fm b % 9007199254740992 ≠ 0
      omega
    have hB : blen (fO b).V ≤ 53 := by
      refine blen_le_iff.2 ?_
      rw [k2]
      exact Nat.lt_of_le_of_lt (Nat.div_le_self _ _) hm
    have hx : (fO b).V * 2 ^ ((fO b).e - (fe b - 1)).toNat = 2 * fm b := by
      rw [k2, k3, show (fe b + (low (fm b) : Int) - (fe b - 1)).toNat = low (fm b) + 1 by omega, Nat.pow_succ, ← Nat.mul_assoc, hp]
      omega
    have h := addB_near (a := fO b) (b := ⟨fng b, 1, fe b - 1⟩) (lo := fe b - 1) (x := 2 * fm b) (y := 1) hV0 (by show (1 : Nat) ≠ 0; decide) (by rw [k3]; show min _ (fe b - 1) = _; omega) hx (by show 1 * 2 ^ (fe b - 1 - (fe b - 1)).toNat = 1; rw [Int.sub_self]; rfl) (by
      show max ((blen (fO b).V : Int) - 1 + (fO b).e) ((blen 1 : Int) - 1 + (fe b - 1)) - (fe b - 1) ≤ 65535
      rw [k3, show blen 1 = 1 from by decide]
      omega)
    rw [h, if_pos k1, k1]
    exact mid_mk hf
theorem mid_size {b : Nat} (hf : Fnt b) : 2 * sz (2 * fm b + 1) (fe b - 1) = vX (b % 9223372036854775808) + vX (b % 9223372036854775808 + 1) := by
  have hl := fin_lt hf
  have hbd := fe_bd hf
  obtain ⟨s1, s2, s3, _, _⟩ := size_same (a := b % 9223372036854775808) (b := b) (Nat.mod_mod _ _)
  rw [vX_next hl, vX, s1, s2, sz]
  have h1 := sh_eq (e := fe b - 1) (by omega) (by omega)
  have h2 : fe b = (fE b : Int) - 1074 := rfl
  have h3 := kb_eq
  have h4 : fE b + kb = sh (fe b - 1) + 1 := by omega
  rw [h4, Nat.pow_succ, Nat.add_mul, Nat.one_mul]
  generalize fm b = M
  generalize 2 ^ sh (fe b - 1) = P
  rw [← Nat.mul_assoc, Nat.mul_assoc 2 M P]
  omega
theorem mid_low {b : Nat} (hf : Fnt b) : IsLow (sz (2 * fm b + 1) (fe b - 1)) (b % 9223372036854775808) := by
  have hl := fin_lt hf
  have h1 := mid_size hf
  have h2 := vX_lt hl
  exact ⟨by omega, by omega, fun _ => by omega⟩
/-- The unit at a number. -/
theorem unit_fin {b : Nat} (hf : Fnt b) (h0 : fm b ≠ 0) : max ((blen (fO b).V : Int) - 1 + held (fO b).e - 52) (-1074) = fe b := by
  obtain ⟨k1, k2, k3⟩ := fO_pos hf h0
  have hbd := fe_bd hf
  have hp := odd_part (fm b)
  have hV0 : (fO b).V ≠ 0 := by rw [k2]; exact fun h => h0 (odd_part_zero.1 h)
  obtain ⟨_, p2, p3, p4⟩ := f_parts b
  have hl : low (fm b) < 53 := by
    refine (low_lt_iff (Nat.pos_of_ne_zero h0)).2 ?_
    show fm b % 9007199254740992 ≠ 0
    omega
  have hB : blen (fm b) = blen (fO b).V + low (fm b) := by
    rw [← blen_shl hV0, k2, hp]
  have hB1 : blen (fm b) ≤ 53 := blen_le_iff.2 p2
  have hB2 : 0 < fE b → blen (fm b) = 53 := fun h => blen_eq (k := 53) (p3 h) p2 (by decide)
  have hfe : fe b = (fE b : Int) - 1074 := rfl
  rw [k3, held_id (by omega) (by omega)]
  rcases Nat.eq_zero_or_pos (fE b) with h | h
  · omega
  · have := hB2 h; omega
theorem unit_zero {b : Nat} (h0 : fm b = 0) : fe b = -1074 := by
  have h1 := (f_parts b).2.2.1
  have hfe : fe b = (fE b : Int) - 1074 := rfl
  rcases Nat.eq_zero_or_pos (fE b) with h | h
  · omega
  · have := h1 h; omega

theorem nsz_inf {e : Int} (h : e = 1024) : sz 1 e = vX 9218868437227405312 := by
  have h1 := sh_eq (e := e) (by omega) (by omega)
  have h2 := kb_eq
  rw [vX_inf, sz, Nat.one_mul]
  congr 1
  omega
/-- What Break tells. -/
def brkO : Option Dy → Bool
  | none => false
  | some d => if d.V = 0 then true else if 1024 ≤ rtop d.V d.e then decide (rtop d.V d.e = 1024 ∧ d.e = 1024) else decide (ru d.V d.e - 1 ≤ d.e)
theorem rB_odd {V m : Nat} {e : Int} (u : Int) (h : V = 2 * m + 1) : rB V e u = false ↔ u - 1 ≤ e := by
  unfold rB
  by_cases hu : u ≤ e
  · rw [if_pos hu]
    exact ⟨fun _ => by omega, fun _ => rfl⟩
  · rw [if_neg hu, decide_eq_false_iff_not, Decidable.not_not]
    obtain ⟨k, hk⟩ : ∃ k, (u - e - 1).toNat = k := ⟨_, rfl⟩
    rw [hk]
    cases k with
    | zero => exact ⟨fun _ => by omega, fun _ => by rw [Nat.pow_zero, Nat.mod_one]⟩
    | succ j =>
      constructor
      · intro h0
        have h1 : 2 ∣ V := Nat.dvd_trans ⟨2 ^ j, by rw [Nat.pow_succ, Nat.mul_comm]⟩ (Nat.dvd_of_mod_eq_zero h0)
        omega
      · intro h0; omega
theorem brk_low {g : Bool} {V m : Nat} {e : Int} {X : Nat} (hV : V = 2 * m + 1) (h1 : -1073741824 ≤ e) (h2 : e ≤ 1073741824) (hX : IsLow (sz V e) X) :
    brkO (some ⟨g, V, e⟩) = true ↔ (X = 9218868437227405312 ∧ sz V e = vX 9218868437227405312) ∨ (X < 9218868437227405312 ∧ (sz V e = vX X ∨ 2 * sz V e = vX X + vX (X + 1))) := by
  have hV0 : V ≠ 0 := by omega
  obtain rfl := hX.uniq (low_is hV0 h1 h2)
  unfold brkO
  simp only
  rw [if_neg hV0]
  unfold lowX
  by_cases ht : 1023 < rtop V e
  · rw [if_pos (show 1024 ≤ rtop V e by omega), if_pos ht, decide_eq_true_iff]
    constructor
    · rintro ⟨k1, k2⟩
      refine Or.inl ⟨rfl, ?_⟩
      unfold rtop at k1
      have hB : blen V ≤ 1 := by omega
      have : V = 1 := by have := blen_le_iff.1 hB; omega
      rw [this]
      exact nsz_inf k2
    · rintro (⟨_, k⟩ | ⟨k, _⟩)
      · rw [← nsz_inf (e := 1024) rfl] at k
        obtain ⟨k1, k2⟩ := odd_uniq (k := 0) hV rfl h1 h2 (by decide) (by decide) k
        refine ⟨?_, k2⟩
        unfold rtop
        rw [k1, k2, show blen 1 = 1 from by decide]
        decide
      · omega
  · rw [if_neg (show ¬ 1024 ≤ rtop V e by omega), if_neg ht, decide_eq_true_iff, ← rB_odd (ru V e) hV]
    obtain ⟨r1, r2, r3, r4, r5⟩ := rnd_low hV0 h1 h2 (by omega)
    rw [r5]
    unfold bS
    rw [decide_eq_false_iff_not]
    constructor
    · intro k
      refine Or.inr ⟨r1, ?_⟩
      by_cases k1 : sz V e = vX (rX V e)
      · exact Or.inl k1
      · refine Or.inr ?_
        by_cases k2 : 2 * sz V e = vX (rX V e) + vX (rX V e + 1)
        · exact k2
        · exact absurd ⟨k1, k2⟩ k
    · rintro (⟨k, _⟩ | ⟨_, k⟩)
      · omega
      · rintro ⟨k1, k2⟩
        rcases k with k | k
        · exact k1 k
        · exact k2 k

/-- Is it worth that just? -/
def jst (V : Nat) (e u : Int) : Bool := if u ≤ e then true else decide (V % 2 ^ (u - e).toNat = 0)
/-- What Between tells. -/
def btwO : Option Dy → Nat × Nat × Bool
  | none => (0, 0, false)
  | some d => if d.V = 0 then (0, 0, true) else if 1024 ≤ rtop d.V d.e then (9218868437227405312, 9218868437227405312, true) else (rX d.V d.e, if jst d.V d.e (ru d.V d.e) then rX d.V d.e else rX d.V d.e + 1, true)
theorem jst_iff {V : Nat} {e : Int} (hV : V ≠ 0) (h1 : -1073741824 ≤ e) (h2 : e ≤ 1073741824) (ht : rtop V e ≤ 1023) : jst V e (ru V e) = true ↔ sz V e = vX (rX V e) := by
  obtain ⟨r1, r2, r3, r4, r5⟩ := rnd_low hV h1 h2 ht
  have hlt := vX_lt r1
  have hS' : hS (sz V e) (rX V e) = false ∧ bS (sz V e) (rX V e) = false ↔ sz V e = vX (rX V e) := by
    unfold hS bS
    rw [decide_eq_false_iff_not, decide_eq_false_iff_not]
    constructor
    · rintro ⟨k1, k2⟩
      by_cases k3 : sz V e = vX (rX V e)
      · exact k3
      · exact absurd ⟨k3, by omega⟩ k2
    · intro k; exact ⟨by omega, fun h => h.1 k⟩
  rw [← hS', ← r4, ← r5]
  unfold jst rH rB
  by_cases hu : ru V e ≤ e
  · rw [if_pos hu, if_pos hu, if_pos hu]; simp
  · rw [if_neg hu, if_neg hu, if_neg hu, show (ru V e - e).toNat = (ru V e - e - 1).toNat + 1 by omega]
    generalize (ru V e - e - 1).toNat = k
    rw [decide_eq_true_iff, decide_eq_false_iff_not, decide_eq_false_iff_not, Nat.mod_pow_succ]
    have hp := Nat.two_pow_pos k
    have hm : V / 2 ^ k % 2 = 0 ∨ V / 2 ^ k % 2 = 1 := by omega
    rcases hm with hm | hm
    · rw [hm]; simp
    · rw [hm]
      constructor
      · intro h; omega
      · rintro ⟨h, _⟩; exact absurd rfl h
theorem btw_low {g : Bool} {V : Nat} {e : Int} {X : Nat} (hV : V ≠ 0) (h1 : -1073741824 ≤ e) (h2 : e ≤ 1073741824) (hX : IsLow (sz V e) X) :
    btwO (some ⟨g, V, e⟩) = (X, if X = 9218868437227405312 ∨ sz V e = vX X then X else X + 1, true) := by
  obtain rfl := hX.uniq (low_is hV h1 h2)
  unfold btwO
  simp only
  rw [if_neg hV]
  unfold lowX
  by_cases ht : 1023 < rtop V e
  · rw [if_pos (show 1024 ≤ rtop V e by omega), if_pos ht, if_pos (Or.inl rfl)]
  · rw [if_neg (show ¬ 1024 ≤ rtop V e by omega), if_neg ht]
    obtain ⟨r1, r2, r3, r4, r5⟩ := rnd_low hV h1 h2 (by omega)
    have hj := jst_iff hV h1 h2 (by omega)
    by_cases hj1 : sz V e = vX (rX V e)
    · rw [hj.2 hj1, if_pos rfl, if_pos (Or.inr hj1)]
    · have : jst V e (ru V e) = false := by
        cases h : jst V e (ru V e)
        · rfl
        · exact absurd (hj.1 h) hj1
      rw [this, if_neg (by decide), if_neg (fun h => by rcases h with h | h; omega; exact hj1 h)]

/-- Bits of their parts, by Exact. -/
theorem ex_parts {L U : Nat} (h1 : U < 9007199254740992) (h2 : 0 < L → 4503599627370496 ≤ U) (h3 : L ≤ 2045) : exD (nO false U ((L : Int) - 1074)) = (L * 4503599627370496 + U, true) := by
  obtain ⟨f1, f2, f3, f4, f5⟩ := f_of (L := L) (M := U) false h1 h2 h3 (X := L * 4503599627370496 + U) (by rw [if_neg (by decide), Nat.zero_add])
  have e1 : fO (L * 4503599627370496 + U) = nO false U ((L : Int) - 1074) := by
    unfold fO fe
    rw [f3, f4, f5]
  rw [← e1, exD_back f1 f2, f3]
  by_cases h0 : U = 0
  · rw [if_pos h0]
    have : L = 0 := by
      rcases Nat.eq_zero_or_pos L with h | h
      · exact h
      · have := h2 h; omega
    rw [this, h0]
  · rw [if_neg h0]
/-- The size of what lies below, of parts. -/
theorem low_parts {V : Nat} {e : Int} (hV : V ≠ 0) (h1 : -1073741824 ≤ e) (h2 : e ≤ 1073741824) (ht : rtop V e ≤ 1023) :
    exD (nO false (rU V e (ru V e)) (ru V e)) = (rX V e, true) := by
  have hB := blen_pos hV
  obtain ⟨u, hu⟩ : ∃ u, ru V e = u := ⟨_, rfl⟩
  have hu1 : (u = rtop V e - 52 ∧ -1074 ≤ u) ∨ (u = -1074 ∧ rtop V e - 52 < -1074) := by unfold ru at hu; omega
  obtain ⟨L, hL⟩ : ∃ L : Nat, (u + 1074).toNat = L := ⟨_, rfl⟩
  have hL1 : u = (L : Int) - 1074 := by omega
  have hr : rtop V e = (blen V : Int) - 1 + e := rfl
  have hU : blen (rU V e u) ≤ 53 ∧ (0 < L → blen (rU V e u) = 53) := by
    unfold rU
    by_cases hc : u ≤ e
    · rw [if_pos hc, blen_shl hV]
      omega
    · rw [if_neg hc, Nat.div_div_eq_div_mul, ← Nat.pow_succ, show (u - e - 1).toNat.succ = (u - e).toNat by omega]
      have h9 : blen (V / 2 ^ (u - e).toNat) = blen V - (u - e).toNat := by
        generalize (u - e).toNat = k
        rcases Nat.lt_or_ge V (2 ^ k) with h | h
        · rw [Nat.div_eq_of_lt h, blen_zero]
          have := blen_le_iff.2 h
          omega
        · have hk : k < blen V := by
            rcases Nat.lt_or_ge k (blen V) with h' | h'
            · exact h'
            · exact absurd (blen_le_iff.1 h') (by omega)
          refine blen_eq ?_ ?_ (by omega)
          · refine (Nat.le_div_iff_mul_le (Nat.two_pow_pos _)).2 ?_
            rw [← Nat.pow_add, show blen V - k - 1 + k = blen V - 1 by omega]
            exact blen_le hV
          · refine (Nat.div_lt_iff_lt_mul (Nat.two_pow_pos _)).2 ?_
            rw [← Nat.pow_add, Nat.sub_add_cancel (by omega)]
            exact lt_blen V
      rw [h9]
      omega
  unfold rX
  rw [hu, hL]
  rw [hL1] at hU ⊢
  refine ex_parts (blen_le_iff.1 hU.1) (fun h => ?_) (by omega)
  have h5 := blen_le (x := rU V e ((L : Int) - 1074)) (fun h0 => by have h6 := hU.2 h; rw [h0] at h6; cases h6)
  rw [hU.2 h] at h5
  exact h5
end Go.Proofs.YtmmeejofepmgaaaGreatDoor
/- The document's numbers: planimeterref05.Sign, Top, Add. -/
namespace Go.Proofs.YtmmeejofepmgaaaGreatDoor
open Go.RowKit

theorem dnil_iff {w : World} {A : Option Addr} {n c : Nat} {ds : List Nat} (h : Dig w A n c ds) (hb : D.Bare ds) : n = 0 ↔ D.val ds = 0 := by
  rw [← D.tl_zero_iff, hb, h.len]

theorem rsign_l (v : Int) (g : Bool) (A : Option Addr) (n c : Nat) (ds : List Nat) (e0 : Int) (w : World) (hA : Dig w A n c ds) (hb : D.Bare ds) (hv : Hid (sgD g (D.val ds) = v)) :
    Calls Tryz.prog 8 #[.agg #[.bool g, .slice A n c, .int .i64 e0]] w fun e w' => e = .returned (.int .i64 v) ∧ Below w.heap.size w w' := by
  have H1 := Lib.hid (below1 w (.cells #[.bool g, .slice A n c, .int .i64 e0] 30))
  have hv' := hv.out
  have hz := dnil_iff hA hb
  unfold sgD at hv'
  clear hv hA hb
  by_cases h0 : D.val ds = 0
  · rw [if_pos h0] at hv'
    subst hv'
    obtain rfl := hz.2 h0
    clear hz h0
    go_enter Tryz.func8, Tryz.ntmps8
    go_wp2
    go_ret
    exact ⟨rfl, H1.out⟩
  · rw [if_neg h0] at hv'
    have c1 : ((n : Int) == 0) = false := beq_no (by omega)
    clear hz h0
    cases g <;> subst hv' <;> (
      go_enter Tryz.func8, Tryz.ntmps8
      go_wp2
      go_ret
      exact ⟨rfl, H1.out⟩)

theorem rtop_l (v : Int) (g : Bool) (A : Option Addr) (n c : Nat) (ds : List Nat) (e0 : Int) (w : World) (hA : Dig w A n c ds) (hb : D.Bare ds) (hn : n ≤ 1000000) (h1 : -4294967296 ≤ e0) (h2 : e0 ≤ 4294967296) (hv : Hid (rtop (D.val ds) e0 = v)) :
    Calls Tryz.prog 63 #[.agg #[.bool g, .slice A n c, .int .i64 e0]] w fun e w' => e = .returned (.int .i64 v) ∧ Below w.heap.size w w' := by
  have a1 := below1 w (.cells #[.bool g, .slice A n c, .int .i64 e0] 30)
  have hlt := D.val_lt hA.words
  rw [hA.len, D.pw_two] at hlt
  have hbl : blen (D.val ds) ≤ 16 * n := blen_le_iff.2 hlt
  have H2 := fun q => rbits_any A n c ds ((w.alloc (.cells #[.bool g, .slice A n c, .int .i64 e0] 30)).drewN q) ((hA.below a1).drewN q) hb hn
  have hv' : (blen (D.val ds) : Int) - 1 + e0 = v := hv.out
  generalize blen (D.val ds) = B at *
  have H2 := Lib.hid H2
  have HS := Lib.hid a1
  have HV := Lib.hid hv'
  have hw : IntKind.i64.wrap ((B : Int) - 1 + e0) = (B : Int) - 1 + e0 := by rw [IntKind.wrap_i64]; omega
  clear hA hb a1 hlt hv hv'
  go_enter Tryz.func63, Tryz.ntmps63
  go_wp2
  go_quiet ((go_at_call 26; exact quiet_one (H2.out _)))
  go_wp2
  go_ret
  exact ⟨ret_int HV.out, below_drewN HS.out _⟩

/-- Two numbers of the document, in their boxes. -/
def HN (w0 : World) (b1 : Nat) (g : Bool) (A : Option Addr) (n c : Nat) (ds : List Nat) (e1 : Int) (b2 : Nat) (k : Bool) (B : Option Addr) (m d : Nat) (es : List Nat) (e2 : Int) (w : World) : Prop :=
  Bd w b1 30 g A n c e1 ∧ Bd w b2 30 k B m d e2 ∧ Dig w A n c ds ∧ Dig w B m d es ∧ Below w0.heap.size w0 w
abbrev CellsN (w0 : World) (b1 : Nat) (g : Bool) (A : Option Addr) (n c : Nat) (ds : List Nat) (e1 : Int) (b2 : Nat) (k : Bool) (B : Option Addr) (m d : Nat) (es : List Nat) (e2 : Int) (w' : World) : Prop :=
  w'.cell? ⟨b1, 0, none⟩ = some (.bool g) ∧ w'.cell? ⟨b1, 1, none⟩ = some (.slice A n c) ∧ w'.cell? ⟨b1, 2, none⟩ = some (.int .i64 e1) ∧ w'.cell? ⟨b2, 0, none⟩ = some (.bool k) ∧ w'.cell? ⟨b2, 1, none⟩ = some (.slice B m d) ∧ w'.cell? ⟨b2, 2, none⟩ = some (.int .i64 e2) ∧ Hid (HN w0 b1 g A n c ds e1 b2 k B m d es e2 w')
section
variable {w0 : World} {b1 : Nat} {g : Bool} {A : Option Addr} {n c : Nat} {ds : List Nat} {e1 : Int} {b2 : Nat} {k : Bool} {B : Option Addr} {m d : Nat} {es : List Nat} {e2 : Int} {w w' : World}
theorem HN.below (h : HN w0 b1 g A n c ds e1 b2 k B m d es e2 w) (hb : Below w.heap.size w w') : HN w0 b1 g A n c ds e1 b2 k B m d es e2 w' := by
  obtain ⟨h1, h2, h3, h4, h5⟩ := h
  exact ⟨h1.below hb, h2.below hb, h3.below hb, h4.below hb, h5.trans (hb.mono h5.size)⟩
theorem HN.cells (h : HN w0 b1 g A n c ds e1 b2 k B m d es e2 w) : CellsN w0 b1 g A n c ds e1 b2 k B m d es e2 w := ⟨h.1.c0, h.1.c1, h.1.c2, h.2.1.c0, h.2.1.c1, h.2.1.c2, h⟩
end
theorem HN.start (w : World) (g : Bool) (A : Option Addr) (n c : Nat) (ds : List Nat) (e1 : Int) (k : Bool) (B : Option Addr) (m d : Nat) (es : List Nat) (e2 : Int) (hA : Dig w A n c ds) (hB : Dig w B m d es) :
    HN w w.heap.size g A n c ds e1 (w.heap.size + 1) k B m d es e2 ((w.alloc (.cells #[.bool g, .slice A n c, .int .i64 e1] 30)).alloc (.cells #[.bool k, .slice B m d, .int .i64 e2] 30)) := by
  have a3 : Below w.heap.size w ((w.alloc (.cells #[.bool g, .slice A n c, .int .i64 e1] 30)).alloc (.cells #[.bool k, .slice B m d, .int .i64 e2] 30)) := ((Below.refl _ _).alloc (Nat.le_refl _) _).alloc (by simp) _
  have b1 := (Bd.new w 30 g A n c e1).alloc (.cells #[.bool k, .slice B m d, .int .i64 e2] 30)
  have b2 := Bd.new (w.alloc (.cells #[.bool g, .slice A n c, .int .i64 e1] 30)) 30 k B m d e2
  rw [World.size_alloc] at b2
  exact ⟨b1, b2, hA.below a3, hB.below a3, a3⟩
theorem HN.start3 (w : World) (g : Bool) (A : Option Addr) (n c : Nat) (ds : List Nat) (e1 : Int) (k : Bool) (B : Option Addr) (m d : Nat) (es : List Nat) (e2 : Int) (hA : Dig w A n c ds) (hB : Dig w B m d es) :
    HN w w.heap.size g A n c ds e1 (w.heap.size + 1) k B m d es e2 (((w.alloc (.cells #[.bool g, .slice A n c, .int .i64 e1] 30)).alloc (.cells #[.bool k, .slice B m d, .int .i64 e2] 30)).alloc (.cells #[.bool false, .slice none 0 0, .int .i64 0] 30)) ∧
    Bd (((w.alloc (.cells #[.bool g, .slice A n c, .int .i64 e1] 30)).alloc (.cells #[.bool k, .slice B m d, .int .i64 e2] 30)).alloc (.cells #[.bool false, .slice none 0 0, .int .i64 0] 30)) (w.heap.size + 1 + 1) 30 false none 0 0 0 := by
  have b3 := Bd.new ((w.alloc (.cells #[.bool g, .slice A n c, .int .i64 e1] 30)).alloc (.cells #[.bool k, .slice B m d, .int .i64 e2] 30)) 30 false none 0 0 0
  rw [World.size_alloc, World.size_alloc] at b3
  exact ⟨(HN.start w g A n c ds e1 k B m d es e2 hA hB).below (below1 _ _), b3⟩

/-- The first number is 0: the second one. -/
theorem radd_zero (g : Bool) (A : Option Addr) (c : Nat) (e1 : Int) (k : Bool) (B : Option Addr) (m d : Nat) (es : List Nat) (e2 : Int) (w : World) (hB : Dig w B m d es) (bb : D.Bare es) :
    Calls Tryz.prog 50 #[.agg #[.bool g, .slice A 0 c, .int .i64 e1], .agg #[.bool k, .slice B m d, .int .i64 e2]] w (NTold w ⟨k, D.val es, e2⟩ m) := by
  have h0 := (HN.start w g A 0 c [] e1 k B m d es e2 (Dig.nil _ _ _) hB).below (below1 _ (.cells #[.bool k, .slice B m d, .int .i64 e2] 30))
  have Hfin : Hid (NTold w ⟨k, D.val es, e2⟩ m (.returned (.agg #[.bool k, .slice B m d, .int .i64 e2])) (((w.alloc (.cells #[.bool g, .slice A 0 c, .int .i64 e1] 30)).alloc (.cells #[.bool k, .slice B m d, .int .i64 e2] 30)).alloc (.cells #[.bool k, .slice B m d, .int .i64 e2] 30))) :=
    ⟨B, m, d, es, rfl, Nat.le_refl _, h0.2.2.2.1, bb, rfl, h0.2.2.2.2⟩
  clear h0 hB bb
  go_enter Tryz.func50, Tryz.ntmps50
  go_wp2
  exact bodyPost_ret (v := .agg #[.bool k, .slice B m d, .int .i64 e2]) (by simp [results, Tryz.results50, go_sem]) rfl Hfin.out
end Go.Proofs.YtmmeejofepmgaaaGreatDoor
/- The document's numbers: planimeterref05.Add of two that aren't 0. Written by law_rsum.py. -/
namespace Go.Proofs.YtmmeejofepmgaaaGreatDoor
open Go.RowKit

/-- .. and the result's block. -/
def HS3 (w0 : World) (b1 : Nat) (g : Bool) (A : Option Addr) (n c : Nat) (ds : List Nat) (e1 : Int) (b2 : Nat) (k : Bool) (B : Option Addr) (m d : Nat) (es : List Nat) (e2 : Int) (b3 : Nat) (w : World) : Prop :=
  HN w0 b1 g A n c ds e1 b2 k B m d es e2 w ∧ Bd w b3 30 false none 0 0 0
abbrev CellsS (w0 : World) (b1 : Nat) (g : Bool) (A : Option Addr) (n c : Nat) (ds : List Nat) (e1 : Int) (b2 : Nat) (k : Bool) (B : Option Addr) (m d : Nat) (es : List Nat) (e2 : Int) (b3 : Nat) (w' : World) : Prop :=
  w'.cell? ⟨b1, 0, none⟩ = some (.bool g) ∧ w'.cell? ⟨b1, 1, none⟩ = some (.slice A n c) ∧ w'.cell? ⟨b1, 2, none⟩ = some (.int .i64 e1) ∧ w'.cell? ⟨b2, 0, none⟩ = some (.bool k) ∧ w'.cell? ⟨b2, 1, none⟩ = some (.slice B m d) ∧ w'.cell? ⟨b2, 2, none⟩ = some (.int .i64 e2) ∧ Hid (HS3 w0 b1 g A n c ds e1 b2 k B m d es e2 b3 w')
section
variable {w0 : World} {b1 : Nat} {g : Bool} {A : Option Addr} {n c : Nat} {ds : List Nat} {e1 : Int} {b2 : Nat} {k : Bool} {B : Option Addr} {m d : Nat} {es : List Nat} {e2 : Int} {b3 : Nat} {w w' : World}
theorem HS3.below (h : HS3 w0 b1 g A n c ds e1 b2 k B m d es e2 b3 w) (hb : Below w.heap.size w w') : HS3 w0 b1 g A n c ds e1 b2 k B m d es e2 b3 w' := ⟨h.1.below hb, h.2.below hb⟩
theorem HS3.cells (h : HS3 w0 b1 g A n c ds e1 b2 k B m d es e2 b3 w) : CellsS w0 b1 g A n c ds e1 b2 k B m d es e2 b3 w := ⟨h.1.1.c0, h.1.1.c1, h.1.1.c2, h.1.2.1.c0, h.1.2.1.c1, h.1.2.1.c2, h⟩
end

set_option maxHeartbeats 1000000 in
theorem radd_sum_L (x y q : Nat) (A : Option Addr) (n c : Nat) (ds : List Nat) (e1 : Int) (B : Option Addr) (m d : Nat) (es : List Nat) (e2 : Int) (w : World) (hA : Dig w A n c ds) (hB : Dig w B m d es) (ba : D.Bare ds) (bb : D.Bare es) (hn : n ≤ 1000) (hm : m ≤ 1000) (hn0 : n ≠ 0) (hm0 : m ≠ 0)
    (hd : e1 - e2 = (q : Int)) (hq : q ≤ 16000) (hl : e2 < e1) (hx : Hid (D.val ds * 2 ^ q = x)) (hy : Hid (D.val es = y)) :
    Calls Tryz.prog 50 #[.agg #[.bool false, .slice A n c, .int .i64 e1], .agg #[.bool false, .slice B m d, .int .i64 e2]] w (NTold w ⟨false, x + y, e2⟩ 100001) := by
  have h0 : HS3 w w.heap.size false A n c ds e1 (w.heap.size + 1) false B m d es e2 (w.heap.size + 1 + 1) _ := HN.start3 w false A n c ds e1 false B m d es e2 hA hB
  have K0 := Lib.hid (h0.below (below_drew _)).cells
  have HP1 : Hid (∀ u, CellsS w w.heap.size false A n c ds e1 (w.heap.size + 1) false B m d es e2 (w.heap.size + 1 + 1) u → Calls Tryz.prog 64 #[.slice A n c, .int .i64 (q : Int)] u fun e w' => ∃ (A6 : Option Addr) (m6 c6 : Nat) (ps : List Nat), e = .returned (.slice A6 m6 c6) ∧ m6 ≤ 100000 ∧ CellsS w w.heap.size false A n c ds e1 (w.heap.size + 1) false B m d es e2 (w.heap.size + 1 + 1) w' ∧ Hid (Dig w' A6 m6 c6 ps ∧ D.Bare ps ∧ D.val ps = x ∧ Below u.heap.size u w')) := fun u hu => by
    have h := hu.2.2.2.2.2.2.out
    have this := rshl_any A n c ds q u h.1.2.2.1 ba (by omega) (by omega)
    rw [hx.out] at this
    refine this.mono ?_
    rintro e w' ⟨A6, m6, c6, ps, rfl, q1, q2, q3, q4, q5⟩
    exact ⟨A6, m6, c6, ps, rfl, q1, (h.below q5).cells, q2, q3, q4, q5⟩
  have HP2 : Hid (∀ u, CellsS w w.heap.size false A n c ds e1 (w.heap.size + 1) false B m d es e2 (w.heap.size + 1 + 1) u → Calls Tryz.prog 64 #[.slice B m d, .int .i64 0] u fun e w' => ∃ (A6 : Option Addr) (m6 c6 : Nat) (ps : List Nat), e = .returned (.slice A6 m6 c6) ∧ m6 ≤ 100000 ∧ CellsS w w.heap.size false A n c ds e1 (w.heap.size + 1) false B m d es e2 (w.heap.size + 1 + 1) w' ∧ Hid (Dig w' A6 m6 c6 ps ∧ D.Bare ps ∧ D.val ps = y ∧ Below u.heap.size u w')) := fun u hu => by
    have h := hu.2.2.2.2.2.2.out
    have this := rshl_any B m d es 0 u h.1.2.2.2.1 bb (by omega) (by omega)
    rw [show ((0 : Nat) : Int) = 0 from rfl, Nat.pow_zero, Nat.mul_one] at this
    rw [hy.out] at this
    refine this.mono ?_
    rintro e w' ⟨A6, m6, c6, ps, rfl, q1, q2, q3, q4, q5⟩
    exact ⟨A6, m6, c6, ps, rfl, q1, (h.below q5).cells, q2, q3, q4, q5⟩
  have hwq : IntKind.i64.wrap (q : Int) = (q : Int) := by rw [IntKind.wrap_i64]; omega
  have hw0 : IntKind.i64.wrap 0 = 0 := by decide
  have c1 : ((n : Int) == 0) = false := beq_no (by omega)
  have c2 : ((m : Int) == 0) = false := beq_no (by omega)
  have x1 := h0.1.1.c1
  have x2 := h0.1.1.c2
  have y1 := h0.1.2.1.c1
  have y2 := h0.1.2.1.c2
  have b1 : decide (e2 < e1) = true := decide_eq_true hl
  clear hA hB ba bb hx hy h0 hl hn0 hm0
  go_enter Tryz.func50, Tryz.ntmps50
  go_wp2_with fail
  go_region_held3 (fun w' => w'.cell? ⟨w.heap.size, 0, none⟩ = some (.bool false) ∧ w'.cell? ⟨w.heap.size, 1, none⟩ = some (.slice A n c) ∧ w'.cell? ⟨w.heap.size, 2, none⟩ = some (.int .i64 e1) ∧ w'.cell? ⟨w.heap.size + 1, 0, none⟩ = some (.bool false) ∧ w'.cell? ⟨w.heap.size + 1, 1, none⟩ = some (.slice B m d) ∧ w'.cell? ⟨w.heap.size + 1, 2, none⟩ = some (.int .i64 e2) ∧ Hid (HS3 w w.heap.size false A n c ds e1 (w.heap.size + 1) false B m d es e2 (w.heap.size + 1 + 1) w'))
    (first | (with_reducible exact K0.out) | (with_reducible assumption))
    (first | (go_at_call 64; (with_reducible refine (HP1.out _ (by first | (with_reducible exact K0.out) | (with_reducible assumption))).mono ?_); rintro e w1 ⟨A6, m6, c6, ps, rfl, hm6, hY, hP6⟩) | (go_at_call 64; (with_reducible refine (HP2.out _ (by first | (with_reducible exact K0.out) | (with_reducible assumption))).mono ?_); rintro e w2 ⟨A7, m7, c7, qs, rfl, hm7, hZ, hP7⟩))
  have G1 := hP6.out.1.below hP7.out.2.2.2
  have G2 := hP7.out.1
  have HZ := Lib.hid hZ.2.2.2.2.2.2.out
  have HB := Lib.hid (And.intro hP6.out.2.1 (And.intro hP6.out.2.2.1 (And.intro hP7.out.2.1 hP7.out.2.2.1)))
  have Z0 := Lib.hid (HZ.out.below (below_drew _)).cells
  have HC : Hid (∀ u, Dig u A6 m6 c6 ps → Dig u A7 m7 c7 qs → CellsS w w.heap.size false A n c ds e1 (w.heap.size + 1) false B m d es e2 (w.heap.size + 1 + 1) u → Calls Tryz.prog 65 #[.slice A6 m6 c6, .slice A7 m7 c7] u fun e w' => ∃ (A8 : Option Addr) (m8 c8 : Nat) (rs : List Nat), e = .returned (.slice A8 m8 c8) ∧ m8 ≤ 100001 ∧ CellsS w w.heap.size false A n c ds e1 (w.heap.size + 1) false B m d es e2 (w.heap.size + 1 + 1) w' ∧ Hid (Dig w' A8 m8 c8 rs ∧ D.Bare rs ∧ D.val rs = x + y)) := fun u d1 d2 hu => by
    have h := hu.2.2.2.2.2.2.out
    refine (radd_any A6 m6 c6 ps A7 m7 c7 qs u d1 d2 HB.out.1 HB.out.2.2.1 (by omega) (by omega)).mono ?_
    rintro e w' ⟨A8, m8, c8, rs, rfl, q1, q2, q3, q4, q5⟩
    exact ⟨A8, m8, c8, rs, rfl, by omega, (h.below q5).cells, q2, q3, by rw [q4, HB.out.2.1, HB.out.2.2.2]⟩
  have G1h := Lib.hid (G1.drew)
  have G2h := Lib.hid (G2.drew)
  clear K0 HP1 HP2 hY hP6 hP7 c1 c2 x1 x2 y1 y2 b1 G1 G2
  obtain ⟨x0, x1, x2, y0, y1, y2, _⟩ := hZ
  go_wp2_with fail
  go_region_held3 (fun w' => w'.cell? ⟨w.heap.size, 0, none⟩ = some (.bool false))
    (first | (with_reducible exact Z0.out.1) | (with_reducible exact Kp.out) | (with_reducible exact hX.1))
    ((go_at_call 65; (with_reducible refine (HC.out _ G1h.out G2h.out Z0.out).mono ?_); rintro e w9 ⟨A8, m8, c8, rs, rfl, hm8, hX, hP8⟩; have kb := hX.2.2.2.2.2.2.out.2; have u0 := kb.c0; have u1 := kb.c1; have u2 := kb.c2; have uf := kb.fz; have Hfin : Hid (NTold w ⟨false, x + y, e2⟩ 100001 (.returned (.agg #[.bool false, .slice A8 m8 c8, .int .i64 e2])) (World.put w9 (w.heap.size + 1 + 1) false A8 m8 c8 e2)) := ⟨A8, m8, c8, rs, rfl, hm8, kb.dig hP8.out.1 _ _ _ _ _, hP8.out.2.1, hP8.out.2.2, below_put hX.2.2.2.2.2.2.out.1.2.2.2.2 (by omega) _ _ _ _ _⟩; have hW := hX.2.2.2.2.2.2.out; have Kp : Hid (World.cell? (World.put w9 (w.heap.size + 1 + 1) false A8 m8 c8 e2) ⟨w.heap.size, 0, none⟩ = some (.bool false)) := (hW.1.1.other (by omega) _ _ _ _ _).c0; clear kb hP8 hW))
  all_goals (
    go_wp2_with fail
    exact bodyPost_ret (v := .agg #[.bool false, .slice A8 m8 c8, .int .i64 e2]) (by simp [results, Tryz.results50, go_sem, u0, u1, u2]) rfl Hfin.out)

set_option maxHeartbeats 1000000 in
theorem radd_sum_G (x y q : Nat) (A : Option Addr) (n c : Nat) (ds : List Nat) (e1 : Int) (B : Option Addr) (m d : Nat) (es : List Nat) (e2 : Int) (w : World) (hA : Dig w A n c ds) (hB : Dig w B m d es) (ba : D.Bare ds) (bb : D.Bare es) (hn : n ≤ 1000) (hm : m ≤ 1000) (hn0 : n ≠ 0) (hm0 : m ≠ 0)
    (hd : e2 - e1 = (q : Int)) (hq : q ≤ 16000) (hx : Hid (D.val ds = x)) (hy : Hid (D.val es * 2 ^ q = y)) :
    Calls Tryz.prog 50 #[.agg #[.bool false, .slice A n c, .int .i64 e1], .agg #[.bool false, .slice B m d, .int .i64 e2]] w (NTold w ⟨false, x + y, e1⟩ 100001) := by
  have h0 : HS3 w w.heap.size false A n c ds e1 (w.heap.size + 1) false B m d es e2 (w.heap.size + 1 + 1) _ := HN.start3 w false A n c ds e1 false B m d es e2 hA hB
  have K0 := Lib.hid (h0.below (below_drew _)).cells
  have HP1 : Hid (∀ u, CellsS w w.heap.size false A n c ds e1 (w.heap.size + 1) false B m d es e2 (w.heap.size + 1 + 1) u → Calls Tryz.prog 64 #[.slice A n c, .int .i64 0] u fun e w' => ∃ (A6 : Option Addr) (m6 c6 : Nat) (ps : List Nat), e = .returned (.slice A6 m6 c6) ∧ m6 ≤ 100000 ∧ CellsS w w.heap.size false A n c ds e1 (w.heap.size + 1) false B m d es e2 (w.heap.size + 1 + 1) w' ∧ Hid (Dig w' A6 m6 c6 ps ∧ D.Bare ps ∧ D.val ps = x ∧ Below u.heap.size u w')) := fun u hu => by
    have h := hu.2.2.2.2.2.2.out
    have this := rshl_any A n c ds 0 u h.1.2.2.1 ba (by omega) (by omega)
    rw [show ((0 : Nat) : Int) = 0 from rfl, Nat.pow_zero, Nat.mul_one] at this
    rw [hx.out] at this
    refine this.mono ?_
    rintro e w' ⟨A6, m6, c6, ps, rfl, q1, q2, q3, q4, q5⟩
    exact ⟨A6, m6, c6, ps, rfl, q1, (h.below q5).cells, q2, q3, q4, q5⟩
  have HP2 : Hid (∀ u, CellsS w w.heap.size false A n c ds e1 (w.heap.size + 1) false B m d es e2 (w.heap.size + 1 + 1) u → Calls Tryz.prog 64 #[.slice B m d, .int .i64 (q : Int)] u fun e w' => ∃ (A6 : Option Addr) (m6 c6 : Nat) (ps : List Nat), e = .returned (.slice A6 m6 c6) ∧ m6 ≤ 100000 ∧ CellsS w w.heap.size false A n c ds e1 (w.heap.size + 1) false B m d es e2 (w.heap.size + 1 + 1) w' ∧ Hid (Dig w' A6 m6 c6 ps ∧ D.Bare ps ∧ D.val ps = y ∧ Below u.heap.size u w')) := fun u hu => by
    have h := hu.2.2.2.2.2.2.out
    have this := rshl_any B m d es q u h.1.2.2.2.1 bb (by omega) (by omega)
    rw [hy.out] at this
    refine this.mono ?_
    rintro e w' ⟨A6, m6, c6, ps, rfl, q1, q2, q3, q4, q5⟩
    exact ⟨A6, m6, c6, ps, rfl, q1, (h.below q5).cells, q2, q3, q4, q5⟩
  have hwq : IntKind.i64.wrap (q : Int) = (q : Int) := by rw [IntKind.wrap_i64]; omega
  have hw0 : IntKind.i64.wrap 0 = 0 := by decide
  have c1 : ((n : Int) == 0) = false := beq_no (by omega)
  have c2 : ((m : Int) == 0) = false := beq_no (by omega)
  have x1 := h0.1.1.c1
  have x2 := h0.1.1.c2
  have y1 := h0.1.2.1.c1
  have y2 := h0.1.2.1.c2
  have b1 : decide (e2 < e1) = false := decide_eq_false (by omega)
  clear hA hB ba bb hx hy h0 hn0 hm0
  go_enter Tryz.func50, Tryz.ntmps50
  go_wp2_with fail
  go_region_held3 (fun w' => w'.cell? ⟨w.heap.size, 0, none⟩ = some (.bool false) ∧ w'.cell? ⟨w.heap.size, 1, none⟩ = some (.slice A n c) ∧ w'.cell? ⟨w.heap.size, 2, none⟩ = some (.int .i64 e1) ∧ w'.cell? ⟨w.heap.size + 1, 0, none⟩ = some (.bool false) ∧ w'.cell? ⟨w.heap.size + 1, 1, none⟩ = some (.slice B m d) ∧ w'.cell? ⟨w.heap.size + 1, 2, none⟩ = some (.int .i64 e2) ∧ Hid (HS3 w w.heap.size false A n c ds e1 (w.heap.size + 1) false B m d es e2 (w.heap.size + 1 + 1) w'))
    (first | (with_reducible exact K0.out) | (with_reducible assumption))
    (first | (go_at_call 64; (with_reducible refine (HP1.out _ (by first | (with_reducible exact K0.out) | (with_reducible assumption))).mono ?_); rintro e w1 ⟨A6, m6, c6, ps, rfl, hm6, hY, hP6⟩) | (go_at_call 64; (with_reducible refine (HP2.out _ (by first | (with_reducible exact K0.out) | (with_reducible assumption))).mono ?_); rintro e w2 ⟨A7, m7, c7, qs, rfl, hm7, hZ, hP7⟩))
  have G1 := hP6.out.1.below hP7.out.2.2.2
  have G2 := hP7.out.1
  have HZ := Lib.hid hZ.2.2.2.2.2.2.out
  have HB := Lib.hid (And.intro hP6.out.2.1 (And.intro hP6.out.2.2.1 (And.intro hP7.out.2.1 hP7.out.2.2.1)))
  have Z0 := Lib.hid (HZ.out.below (below_drew _)).cells
  have HC : Hid (∀ u, Dig u A6 m6 c6 ps → Dig u A7 m7 c7 qs → CellsS w w.heap.size false A n c ds e1 (w.heap.size + 1) false B m d es e2 (w.heap.size + 1 + 1) u → Calls Tryz.prog 65 #[.slice A6 m6 c6, .slice A7 m7 c7] u fun e w' => ∃ (A8 : Option Addr) (m8 c8 : Nat) (rs : List Nat), e = .returned (.slice A8 m8 c8) ∧ m8 ≤ 100001 ∧ CellsS w w.heap.size false A n c ds e1 (w.heap.size + 1) false B m d es e2 (w.heap.size + 1 + 1) w' ∧ Hid (Dig w' A8 m8 c8 rs ∧ D.Bare rs ∧ D.val rs = x + y)) := fun u d1 d2 hu => by
    have h := hu.2.2.2.2.2.2.out
    refine (radd_any A6 m6 c6 ps A7 m7 c7 qs u d1 d2 HB.out.1 HB.out.2.2.1 (by omega) (by omega)).mono ?_
    rintro e w' ⟨A8, m8, c8, rs, rfl, q1, q2, q3, q4, q5⟩
    exact ⟨A8, m8, c8, rs, rfl, by omega, (h.below q5).cells, q2, q3, by rw [q4, HB.out.2.1, HB.out.2.2.2]⟩
  have G1h := Lib.hid (G1.drew)
  have G2h := Lib.hid (G2.drew)
  clear K0 HP1 HP2 hY hP6 hP7 c1 c2 x1 x2 y1 y2 b1 G1 G2
  obtain ⟨x0, x1, x2, y0, y1, y2, _⟩ := hZ
  go_wp2_with fail
  go_region_held3 (fun w' => w'.cell? ⟨w.heap.size, 0, none⟩ = some (.bool false))
    (first | (with_reducible exact Z0.out.1) | (with_reducible exact Kp.out) | (with_reducible exact hX.1))
    ((go_at_call 65; (with_reducible refine (HC.out _ G1h.out G2h.out Z0.out).mono ?_); rintro e w9 ⟨A8, m8, c8, rs, rfl, hm8, hX, hP8⟩; have kb := hX.2.2.2.2.2.2.out.2; have u0 := kb.c0; have u1 := kb.c1; have u2 := kb.c2; have uf := kb.fz; have Hfin : Hid (NTold w ⟨false, x + y, e1⟩ 100001 (.returned (.agg #[.bool false, .slice A8 m8 c8, .int .i64 e1])) (World.put w9 (w.heap.size + 1 + 1) false A8 m8 c8 e1)) := ⟨A8, m8, c8, rs, rfl, hm8, kb.dig hP8.out.1 _ _ _ _ _, hP8.out.2.1, hP8.out.2.2, below_put hX.2.2.2.2.2.2.out.1.2.2.2.2 (by omega) _ _ _ _ _⟩; have hW := hX.2.2.2.2.2.2.out; have Kp : Hid (World.cell? (World.put w9 (w.heap.size + 1 + 1) false A8 m8 c8 e1) ⟨w.heap.size, 0, none⟩ = some (.bool false)) := (hW.1.1.other (by omega) _ _ _ _ _).c0; clear kb hP8 hW))
  all_goals (
    go_wp2_with fail
    exact bodyPost_ret (v := .agg #[.bool false, .slice A8 m8 c8, .int .i64 e1]) (by simp [results, Tryz.results50, go_sem, u0, u1, u2]) rfl Hfin.out)

set_option maxHeartbeats 1000000 in
theorem radd_ge_L (x y q : Nat) (A : Option Addr) (n c : Nat) (ds : List Nat) (e1 : Int) (B : Option Addr) (m d : Nat) (es : List Nat) (e2 : Int) (w : World) (hA : Dig w A n c ds) (hB : Dig w B m d es) (ba : D.Bare ds) (bb : D.Bare es) (hn : n ≤ 1000) (hm : m ≤ 1000) (hn0 : n ≠ 0) (hm0 : m ≠ 0)
    (hd : e1 - e2 = (q : Int)) (hq : q ≤ 16000) (hl : e2 < e1) (hx : Hid (D.val ds * 2 ^ q = x)) (hy : Hid (D.val es = y)) (ho : y ≤ x) :
    Calls Tryz.prog 50 #[.agg #[.bool false, .slice A n c, .int .i64 e1], .agg #[.bool true, .slice B m d, .int .i64 e2]] w (NTold w ⟨false, x - y, e2⟩ 100001) := by
  have h0 : HS3 w w.heap.size false A n c ds e1 (w.heap.size + 1) true B m d es e2 (w.heap.size + 1 + 1) _ := HN.start3 w false A n c ds e1 true B m d es e2 hA hB
  have K0 := Lib.hid (h0.below (below_drew _)).cells
  have HP1 : Hid (∀ u, CellsS w w.heap.size false A n c ds e1 (w.heap.size + 1) true B m d es e2 (w.heap.size + 1 + 1) u → Calls Tryz.prog 64 #[.slice A n c, .int .i64 (q : Int)] u fun e w' => ∃ (A6 : Option Addr) (m6 c6 : Nat) (ps : List Nat), e = .returned (.slice A6 m6 c6) ∧ m6 ≤ 100000 ∧ CellsS w w.heap.size false A n c ds e1 (w.heap.size + 1) true B m d es e2 (w.heap.size + 1 + 1) w' ∧ Hid (Dig w' A6 m6 c6 ps ∧ D.Bare ps ∧ D.val ps = x ∧ Below u.heap.size u w')) := fun u hu => by
    have h := hu.2.2.2.2.2.2.out
    have this := rshl_any A n c ds q u h.1.2.2.1 ba (by omega) (by omega)
    rw [hx.out] at this
    refine this.mono ?_
    rintro e w' ⟨A6, m6, c6, ps, rfl, q1, q2, q3, q4, q5⟩
    exact ⟨A6, m6, c6, ps, rfl, q1, (h.below q5).cells, q2, q3, q4, q5⟩
  have HP2 : Hid (∀ u, CellsS w w.heap.size false A n c ds e1 (w.heap.size + 1) true B m d es e2 (w.heap.size + 1 + 1) u → Calls Tryz.prog 64 #[.slice B m d, .int .i64 0] u fun e w' => ∃ (A6 : Option Addr) (m6 c6 : Nat) (ps : List Nat), e = .returned (.slice A6 m6 c6) ∧ m6 ≤ 100000 ∧ CellsS w w.heap.size false A n c ds e1 (w.heap.size + 1) true B m d es e2 (w.heap.size + 1 + 1) w' ∧ Hid (Dig w' A6 m6 c6 ps ∧ D.Bare ps ∧ D.val ps = y ∧ Below u.heap.size u w')) := fun u hu => by
    have h := hu.2.2.2.2.2.2.out
    have this := rshl_any B m d es 0 u h.1.2.2.2.1 bb (by omega) (by omega)
    rw [show ((0 : Nat) : Int) = 0 from rfl, Nat.pow_zero, Nat.mul_one] at this
    rw [hy.out] at this
    refine this.mono ?_
    rintro e w' ⟨A6, m6, c6, ps, rfl, q1, q2, q3, q4, q5⟩
    exact ⟨A6, m6, c6, ps, rfl, q1, (h.below q5).cells, q2, q3, q4, q5⟩
  have hwq : IntKind.i64.wrap (q : Int) = (q : Int) := by rw [IntKind.wrap_i64]; omega
  have hw0 : IntKind.i64.wrap 0 = 0 := by decide
  have c1 : ((n : Int) == 0) = false := beq_no (by omega)
  have c2 : ((m : Int) == 0) = false := beq_no (by omega)
  have x1 := h0.1.1.c1
  have x2 := h0.1.1.c2
  have y1 := h0.1.2.1.c1
  have y2 := h0.1.2.1.c2
  have b1 : decide (e2 < e1) = true := decide_eq_true hl
  clear hA hB ba bb hx hy h0 hl hn0 hm0
  go_enter Tryz.func50, Tryz.ntmps50
  go_wp2_with fail
  go_region_held3 (fun w' => w'.cell? ⟨w.heap.size, 0, none⟩ = some (.bool false) ∧ w'.cell? ⟨w.heap.size, 1, none⟩ = some (.slice A n c) ∧ w'.cell? ⟨w.heap.size, 2, none⟩ = some (.int .i64 e1) ∧ w'.cell? ⟨w.heap.size + 1, 0, none⟩ = some (.bool true) ∧ w'.cell? ⟨w.heap.size + 1, 1, none⟩ = some (.slice B m d) ∧ w'.cell? ⟨w.heap.size + 1, 2, none⟩ = some (.int .i64 e2) ∧ Hid (HS3 w w.heap.size false A n c ds e1 (w.heap.size + 1) true B m d es e2 (w.heap.size + 1 + 1) w'))
    (first | (with_reducible exact K0.out) | (with_reducible assumption))
    (first | (go_at_call 64; (with_reducible refine (HP1.out _ (by first | (with_reducible exact K0.out) | (with_reducible assumption))).mono ?_); rintro e w1 ⟨A6, m6, c6, ps, rfl, hm6, hY, hP6⟩) | (go_at_call 64; (with_reducible refine (HP2.out _ (by first | (with_reducible exact K0.out) | (with_reducible assumption))).mono ?_); rintro e w2 ⟨A7, m7, c7, qs, rfl, hm7, hZ, hP7⟩))
  have G1 := hP6.out.1.below hP7.out.2.2.2
  have G2 := hP7.out.1
  have HZ := Lib.hid hZ.2.2.2.2.2.2.out
  have HB := Lib.hid (And.intro hP6.out.2.1 (And.intro hP6.out.2.2.1 (And.intro hP7.out.2.1 hP7.out.2.2.1)))
  have Z0 := Lib.hid (HZ.out.below (below_drew _)).cells
  have HC : Hid (∀ u, Dig u A6 m6 c6 ps → Dig u A7 m7 c7 qs → CellsS w w.heap.size false A n c ds e1 (w.heap.size + 1) true B m d es e2 (w.heap.size + 1 + 1) u → Calls Tryz.prog 67 #[.slice A6 m6 c6, .slice A7 m7 c7] u fun e w' => ∃ (A8 : Option Addr) (m8 c8 : Nat) (rs : List Nat), e = .returned (.slice A8 m8 c8) ∧ m8 ≤ 100001 ∧ CellsS w w.heap.size false A n c ds e1 (w.heap.size + 1) true B m d es e2 (w.heap.size + 1 + 1) w' ∧ Hid (Dig w' A8 m8 c8 rs ∧ D.Bare rs ∧ D.val rs = x - y)) := fun u d1 d2 hu => by
    have h := hu.2.2.2.2.2.2.out
    refine (rsub_any A6 m6 c6 ps A7 m7 c7 qs u d1 d2 HB.out.2.2.1 (by rw [HB.out.2.1, HB.out.2.2.2]; exact ho) (by omega) (by omega)).mono ?_
    rintro e w' ⟨A8, m8, c8, rs, rfl, q1, q2, q3, q4, q5⟩
    exact ⟨A8, m8, c8, rs, rfl, by omega, (h.below q5).cells, q2, q3, by rw [q4, HB.out.2.1, HB.out.2.2.2]⟩
  obtain ⟨z, hz⟩ : ∃ z, cmpZ x y = z := ⟨_, rfl⟩
  have HR := rcmp_any A6 m6 c6 ps A7 m7 c7 qs w2 G1 G2 HB.out.1 HB.out.2.2.1 (by omega) (by omega)
  rw [HB.out.2.1, HB.out.2.2.2, hz] at HR
  have HR := Lib.hid HR
  have b3 : decide (0 ≤ z) = true := by
    rw [← hz]
    exact decide_eq_true (by have := cmpZ_bd x y; by_cases h : y < x; (rw [cmpZ_gt h]; decide); (rw [cmpZ_eq (by omega)]; decide))
  have G1h := Lib.hid G1
  have G2h := Lib.hid G2
  clear hz
  clear K0 HP1 HP2 hY hP6 hP7 c1 c2 x1 x2 y1 y2 b1 G1 G2
  obtain ⟨x0, x1, x2, y0, y1, y2, _⟩ := hZ
  go_wp2_with fail
  refine HR.out.mono ?_
  rintro e w3 ⟨rfl, nq, rfl⟩
  have Hq := Lib.hid (HZ.out.below (below_drewN (Below.refl _ _) nq))
  have Zq := Lib.hid (HZ.out.below (below_drewN (Below.refl _ _) (nq + 1))).cells
  have Zr := Lib.hid (Hq.out.below (below_drew _)).cells
  have G1q := Lib.hid (G1h.out.drewN (nq + 1))
  have G2q := Lib.hid (G2h.out.drewN (nq + 1))
  obtain ⟨v0, v1, v2, s0, s1, s2, _⟩ := Hq.out.cells
  clear x0 x1 x2 y0 y1 y2 HR HZ Z0
  go_wp2_with fail
  go_region_held3 (fun w' => w'.cell? ⟨w.heap.size, 0, none⟩ = some (.bool false))
    (first | (with_reducible exact Zq.out.1) | (with_reducible exact Zr.out.1) | (with_reducible exact Kp.out) | (with_reducible exact hX.1))
    ((go_at_call 67; (with_reducible refine (HC.out _ G1q.out G2q.out Zq.out).mono ?_); rintro e w9 ⟨A8, m8, c8, rs, rfl, hm8, hX, hP8⟩; have kb := hX.2.2.2.2.2.2.out.2; have u0 := kb.c0; have u1 := kb.c1; have u2 := kb.c2; have uf := kb.fz; have Hfin : Hid (NTold w ⟨false, x - y, e2⟩ 100001 (.returned (.agg #[.bool false, .slice A8 m8 c8, .int .i64 e2])) (World.put w9 (w.heap.size + 1 + 1) false A8 m8 c8 e2)) := ⟨A8, m8, c8, rs, rfl, hm8, kb.dig hP8.out.1 _ _ _ _ _, hP8.out.2.1, hP8.out.2.2, below_put hX.2.2.2.2.2.2.out.1.2.2.2.2 (by omega) _ _ _ _ _⟩; have hW := hX.2.2.2.2.2.2.out; have Kp : Hid (World.cell? (World.put w9 (w.heap.size + 1 + 1) false A8 m8 c8 e2) ⟨w.heap.size, 0, none⟩ = some (.bool false)) := (hW.1.1.other (by omega) _ _ _ _ _).c0; clear kb hP8 hW))
  all_goals (
    go_wp2_with fail
    exact bodyPost_ret (v := .agg #[.bool false, .slice A8 m8 c8, .int .i64 e2]) (by simp [results, Tryz.results50, go_sem, u0, u1, u2]) rfl Hfin.out)

set_option maxHeartbeats 1000000 in
theorem radd_ge_G (x y q : Nat) (A : Option Addr) (n c : Nat) (ds : List Nat) (e1 : Int) (B : Option Addr) (m d : Nat) (es : List Nat) (e2 : Int) (w : World) (hA : Dig w A n c ds) (hB : Dig w B m d es) (ba : D.Bare ds) (bb : D.Bare es) (hn : n ≤ 1000) (hm : m ≤ 1000) (hn0 : n ≠ 0) (hm0 : m ≠ 0)
    (hd : e2 - e1 = (q : Int)) (hq : q ≤ 16000) (hx : Hid (D.val ds = x)) (hy : Hid (D.val es * 2 ^ q = y)) (ho : y ≤ x) :
    Calls Tryz.prog 50 #[.agg #[.bool false, .slice A n c, .int .i64 e1], .agg #[.bool true, .slice B m d, .int .i64 e2]] w (NTold w ⟨false, x - y, e1⟩ 100001) := by
  have h0 : HS3 w w.heap.size false A n c ds e1 (w.heap.size + 1) true B m d es e2 (w.heap.size + 1 + 1) _ := HN.start3 w false A n c ds e1 true B m d es e2 hA hB
  have K0 := Lib.hid (h0.below (below_drew _)).cells
  have HP1 : Hid (∀ u, CellsS w w.heap.size false A n c ds e1 (w.heap.size + 1) true B m d es e2 (w.heap.size + 1 + 1) u → Calls Tryz.prog 64 #[.slice A n c, .int .i64 0] u fun e w' => ∃ (A6 : Option Addr) (m6 c6 : Nat) (ps : List Nat), e = .returned (.slice A6 m6 c6) ∧ m6 ≤ 100000 ∧ CellsS w w.heap.size false A n c ds e1 (w.heap.size + 1) true B m d es e2 (w.heap.size + 1 + 1) w' ∧ Hid (Dig w' A6 m6 c6 ps ∧ D.Bare ps ∧ D.val ps = x ∧ Below u.heap.size u w')) := fun u hu => by
    have h := hu.2.2.2.2.2.2.out
    have this := rshl_any A n c ds 0 u h.1.2.2.1 ba (by omega) (by omega)
    rw [show ((0 : Nat) : Int) = 0 from rfl, Nat.pow_zero, Nat.mul_one] at this
    rw [hx.out] at this
    refine this.mono ?_
    rintro e w' ⟨A6, m6, c6, ps, rfl, q1, q2, q3, q4, q5⟩
    exact ⟨A6, m6, c6, ps, rfl, q1, (h.below q5).cells, q2, q3, q4, q5⟩
  have HP2 : Hid (∀ u, CellsS w w.heap.size false A n c ds e1 (w.heap.size + 1) true B m d es e2 (w.heap.size + 1 + 1) u → Calls Tryz.prog 64 #[.slice B m d, .int .i64 (q : Int)] u fun e w' => ∃ (A6 : Option Addr) (m6 c6 : Nat) (ps : List Nat), e = .returned (.slice A6 m6 c6) ∧ m6 ≤ 100000 ∧ CellsS w w.heap.size false A n c ds e1 (w.heap.size + 1) true B m d es e2 (w.heap.size + 1 + 1) w' ∧ Hid (Dig w' A6 m6 c6 ps ∧ D.Bare ps ∧ D.val ps = y ∧ Below u.heap.size u w')) := fun u hu => by
    have h := hu.2.2.2.2.2.2.out
    have this := rshl_any B m d es q u h.1.2.2.2.1 bb (by omega) (by omega)
    rw [hy.out] at this
    refine this.mono ?_
    rintro e w' ⟨A6, m6, c6, ps, rfl, q1, q2, q3, q4, q5⟩
    exact ⟨A6, m6, c6, ps, rfl, q1, (h.below q5).cells, q2, q3, q4, q5⟩
  have hwq : IntKind.i64.wrap (q : Int) = (q : Int) := by rw [IntKind.wrap_i64]; omega
  have hw0 : IntKind.i64.wrap 0 = 0 := by decide
  have c1 : ((n : Int) == 0) = false := beq_no (by omega)
  have c2 : ((m : Int) == 0) = false := beq_no (by omega)
  have x1 := h0.1.1.c1
  have x2 := h0.1.1.c2
  have y1 := h0.1.2.1.c1
  have y2 := h0.1.2.1.c2
  have b1 : decide (e2 < e1) = false := decide_eq_false (by omega)
  clear hA hB ba bb hx hy h0 hn0 hm0
  go_enter Tryz.func50, Tryz.ntmps50
  go_wp2_with fail
  go_region_held3 (fun w' => w'.cell? ⟨w.heap.size, 0, none⟩ = some (.bool false) ∧ w'.cell? ⟨w.heap.size, 1, none⟩ = some (.slice A n c) ∧ w'.cell? ⟨w.heap.size, 2, none⟩ = some (.int .i64 e1) ∧ w'.cell? ⟨w.heap.size + 1, 0, none⟩ = some (.bool true) ∧ w'.cell? ⟨w.heap.size + 1, 1, none⟩ = some (.slice B m d) ∧ w'.cell? ⟨w.heap.size + 1, 2, none⟩ = some (.int .i64 e2) ∧ Hid (HS3 w w.heap.size false A n c ds e1 (w.heap.size + 1) true B m d es e2 (w.heap.size + 1 + 1) w'))
    (first | (with_reducible exact K0.out) | (with_reducible assumption))
    (first | (go_at_call 64; (with_reducible refine (HP1.out _ (by first | (with_reducible exact K0.out) | (with_reducible assumption))).mono ?_); rintro e w1 ⟨A6, m6, c6, ps, rfl, hm6, hY, hP6⟩) | (go_at_call 64; (with_reducible refine (HP2.out _ (by first | (with_reducible exact K0.out) | (with_reducible assumption))).mono ?_); rintro e w2 ⟨A7, m7, c7, qs, rfl, hm7, hZ, hP7⟩))
  have G1 := hP6.out.1.below hP7.out.2.2.2
  have G2 := hP7.out.1
  have HZ := Lib.hid hZ.2.2.2.2.2.2.out
  have HB := Lib.hid (And.intro hP6.out.2.1 (And.intro hP6.out.2.2.1 (And.intro hP7.out.2.1 hP7.out.2.2.1)))
  have Z0 := Lib.hid (HZ.out.below (below_drew _)).cells
  have HC : Hid (∀ u, Dig u A6 m6 c6 ps → Dig u A7 m7 c7 qs → CellsS w w.heap.size false A n c ds e1 (w.heap.size + 1) true B m d es e2 (w.heap.size + 1 + 1) u → Calls Tryz.prog 67 #[.slice A6 m6 c6, .slice A7 m7 c7] u fun e w' => ∃ (A8 : Option Addr) (m8 c8 : Nat) (rs : List Nat), e = .returned (.slice A8 m8 c8) ∧ m8 ≤ 100001 ∧ CellsS w w.heap.size false A n c ds e1 (w.heap.size + 1) true B m d es e2 (w.heap.size + 1 + 1) w' ∧ Hid (Dig w' A8 m8 c8 rs ∧ D.Bare rs ∧ D.val rs = x - y)) := fun u d1 d2 hu => by
    have h := hu.2.2.2.2.2.2.out
    refine (rsub_any A6 m6 c6 ps A7 m7 c7 qs u d1 d2 HB.out.2.2.1 (by rw [HB.out.2.1, HB.out.2.2.2]; exact ho) (by omega) (by omega)).mono ?_
    rintro e w' ⟨A8, m8, c8, rs, rfl, q1, q2, q3, q4, q5⟩
    exact ⟨A8, m8, c8, rs, rfl, by omega, (h.below q5).cells, q2, q3, by rw [q4, HB.out.2.1, HB.out.2.2.2]⟩
  obtain ⟨z, hz⟩ : ∃ z, cmpZ x y = z := ⟨_, rfl⟩
  have HR := rcmp_any A6 m6 c6 ps A7 m7 c7 qs w2 G1 G2 HB.out.1 HB.out.2.2.1 (by omega) (by omega)
  rw [HB.out.2.1, HB.out.2.2.2, hz] at HR
  have HR := Lib.hid HR
  have b3 : decide (0 ≤ z) = true := by
    rw [← hz]
    exact decide_eq_true (by have := cmpZ_bd x y; by_cases h : y < x; (rw [cmpZ_gt h]; decide); (rw [cmpZ_eq (by omega)]; decide))
  have G1h := Lib.hid G1
  have G2h := Lib.hid G2
  clear hz
  clear K0 HP1 HP2 hY hP6 hP7 c1 c2 x1 x2 y1 y2 b1 G1 G2
  obtain ⟨x0, x1, x2, y0, y1, y2, _⟩ := hZ
  go_wp2_with fail
  refine HR.out.mono ?_
  rintro e w3 ⟨rfl, nq, rfl⟩
  have Hq := Lib.hid (HZ.out.below (below_drewN (Below.refl _ _) nq))
  have Zq := Lib.hid (HZ.out.below (below_drewN (Below.refl _ _) (nq + 1))).cells
  have Zr := Lib.hid (Hq.out.below (below_drew _)).cells
  have G1q := Lib.hid (G1h.out.drewN (nq + 1))
  have G2q := Lib.hid (G2h.out.drewN (nq + 1))
  obtain ⟨v0, v1, v2, s0, s1, s2, _⟩ := Hq.out.cells
  clear x0 x1 x2 y0 y1 y2 HR HZ Z0
  go_wp2_with fail
  go_region_held3 (fun w' => w'.cell? ⟨w.heap.size, 0, none⟩ = some (.bool false))
    (first | (with_reducible exact Zq.out.1) | (with_reducible exact Zr.out.1) | (with_reducible exact Kp.out) | (with_reducible exact hX.1))
    ((go_at_call 67; (with_reducible refine (HC.out _ G1q.out G2q.out Zq.out).mono ?_); rintro e w9 ⟨A8, m8, c8, rs, rfl, hm8, hX, hP8⟩; have kb := hX.2.2.2.2.2.2.out.2; have u0 := kb.c0; have u1 := kb.c1; have u2 := kb.c2; have uf := kb.fz; have Hfin : Hid (NTold w ⟨false, x - y, e1⟩ 100001 (.returned (.agg #[.bool false, .slice A8 m8 c8, .int .i64 e1])) (World.put w9 (w.heap.size + 1 + 1) false A8 m8 c8 e1)) := ⟨A8, m8, c8, rs, rfl, hm8, kb.dig hP8.out.1 _ _ _ _ _, hP8.out.2.1, hP8.out.2.2, below_put hX.2.2.2.2.2.2.out.1.2.2.2.2 (by omega) _ _ _ _ _⟩; have hW := hX.2.2.2.2.2.2.out; have Kp : Hid (World.cell? (World.put w9 (w.heap.size + 1 + 1) false A8 m8 c8 e1) ⟨w.heap.size, 0, none⟩ = some (.bool false)) := (hW.1.1.other (by omega) _ _ _ _ _).c0; clear kb hP8 hW))
  all_goals (
    go_wp2_with fail
    exact bodyPost_ret (v := .agg #[.bool false, .slice A8 m8 c8, .int .i64 e1]) (by simp [results, Tryz.results50, go_sem, u0, u1, u2]) rfl Hfin.out)

set_option maxHeartbeats 1000000 in
theorem radd_lt_L (x y q : Nat) (A : Option Addr) (n c : Nat) (ds : List Nat) (e1 : Int) (B : Option Addr) (m d : Nat) (es : List Nat) (e2 : Int) (w : World) (hA : Dig w A n c ds) (hB : Dig w B m d es) (ba : D.Bare ds) (bb : D.Bare es) (hn : n ≤ 1000) (hm : m ≤ 1000) (hn0 : n ≠ 0) (hm0 : m ≠ 0)
    (hd : e1 - e2 = (q : Int)) (hq : q ≤ 16000) (hl : e2 < e1) (hx : Hid (D.val ds * 2 ^ q = x)) (hy : Hid (D.val es = y)) (ho : x < y) :
    Calls Tryz.prog 50 #[.agg #[.bool false, .slice A n c, .int .i64 e1], .agg #[.bool true, .slice B m d, .int .i64 e2]] w (NTold w ⟨true, y - x, e2⟩ 100001) := by
  have h0 : HS3 w w.heap.size false A n c ds e1 (w.heap.size + 1) true B m d es e2 (w.heap.size + 1 + 1) _ := HN.start3 w false A n c ds e1 true B m d es e2 hA hB
  have K0 := Lib.hid (h0.below (below_drew _)).cells
  have HP1 : Hid (∀ u, CellsS w w.heap.size false A n c ds e1 (w.heap.size + 1) true B m d es e2 (w.heap.size + 1 + 1) u → Calls Tryz.prog 64 #[.slice A n c, .int .i64 (q : Int)] u fun e w' => ∃ (A6 : Option Addr) (m6 c6 : Nat) (ps : List Nat), e = .returned (.slice A6 m6 c6) ∧ m6 ≤ 100000 ∧ CellsS w w.heap.size false A n c ds e1 (w.heap.size + 1) true B m d es e2 (w.heap.size + 1 + 1) w' ∧ Hid (Dig w' A6 m6 c6 ps ∧ D.Bare ps ∧ D.val ps = x ∧ Below u.heap.size u w')) := fun u hu => by
    have h := hu.2.2.2.2.2.2.out
    have this := rshl_any A n c ds q u h.1.2.2.1 ba (by omega) (by omega)
    rw [hx.out] at this
    refine this.mono ?_
    rintro e w' ⟨A6, m6, c6, ps, rfl, q1, q2, q3, q4, q5⟩
    exact ⟨A6, m6, c6, ps, rfl, q1, (h.below q5).cells, q2, q3, q4, q5⟩
  have HP2 : Hid (∀ u, CellsS w w.heap.size false A n c ds e1 (w.heap.size + 1) true B m d es e2 (w.heap.size + 1 + 1) u → Calls Tryz.prog 64 #[.slice B m d, .int .i64 0] u fun e w' => ∃ (A6 : Option Addr) (m6 c6 : Nat) (ps : List Nat), e = .returned (.slice A6 m6 c6) ∧ m6 ≤ 100000 ∧ CellsS w w.heap.size false A n c ds e1 (w.heap.size + 1) true B m d es e2 (w.heap.size + 1 + 1) w' ∧ Hid (Dig w' A6 m6 c6 ps ∧ D.Bare ps ∧ D.val ps = y ∧ Below u.heap.size u w')) := fun u hu => by
    have h := hu.2.2.2.2.2.2.out
    have this := rshl_any B m d es 0 u h.1.2.2.2.1 bb (by omega) (by omega)
    rw [show ((0 : Nat) : Int) = 0 from rfl, Nat.pow_zero, Nat.mul_one] at this
    rw [hy.out] at this
    refine this.mono ?_
    rintro e w' ⟨A6, m6, c6, ps, rfl, q1, q2, q3, q4, q5⟩
    exact ⟨A6, m6, c6, ps, rfl, q1, (h.below q5).cells, q2, q3, q4, q5⟩
  have hwq : IntKind.i64.wrap (q : Int) = (q : Int) := by rw [IntKind.wrap_i64]; omega
  have hw0 : IntKind.i64.wrap 0 = 0 := by decide
  have c1 : ((n : Int) == 0) = false := beq_no (by omega)
  have c2 : ((m : Int) == 0) = false := beq_no (by omega)
  have x1 := h0.1.1.c1
  have x2 := h0.1.1.c2
  have y1 := h0.1.2.1.c1
  have y2 := h0.1.2.1.c2
  have b1 : decide (e2 < e1) = true := decide_eq_true hl
  clear hA hB ba bb hx hy h0 hl hn0 hm0
  go_enter Tryz.func50, Tryz.ntmps50
  go_wp2_with fail
  go_region_held3 (fun w' => w'.cell? ⟨w.heap.size, 0, none⟩ = some (.bool false) ∧ w'.cell? ⟨w.heap.size, 1, none⟩ = some (.slice A n c) ∧ w'.cell? ⟨w.heap.size, 2, none⟩ = some (.int .i64 e1) ∧ w'.cell? ⟨w.heap.size + 1, 0, none⟩ = some (.bool true) ∧ w'.cell? ⟨w.heap.size + 1, 1, none⟩ = some (.slice B m d) ∧ w'.cell? ⟨w.heap.size + 1, 2, none⟩ = some (.int .i64 e2) ∧ Hid (HS3 w w.heap.size false A n c ds e1 (w.heap.size + 1) true B m d es e2 (w.heap.size + 1 + 1) w'))
    (first | (with_reducible exact K0.out) | (with_reducible assumption))
    (first | (go_at_call 64; (with_reducible refine (HP1.out _ (by first | (with_reducible exact K0.out) | (with_reducible assumption))).mono ?_); rintro e w1 ⟨A6, m6, c6, ps, rfl, hm6, hY, hP6⟩) | (go_at_call 64; (with_reducible refine (HP2.out _ (by first | (with_reducible exact K0.out) | (with_reducible assumption))).mono ?_); rintro e w2 ⟨A7, m7, c7, qs, rfl, hm7, hZ, hP7⟩))
  have G1 := hP6.out.1.below hP7.out.2.2.2
  have G2 := hP7.out.1
  have HZ := Lib.hid hZ.2.2.2.2.2.2.out
  have HB := Lib.hid (And.intro hP6.out.2.1 (And.intro hP6.out.2.2.1 (And.intro hP7.out.2.1 hP7.out.2.2.1)))
  have Z0 := Lib.hid (HZ.out.below (below_drew _)).cells
  have HC : Hid (∀ u, Dig u A6 m6 c6 ps → Dig u A7 m7 c7 qs → CellsS w w.heap.size false A n c ds e1 (w.heap.size + 1) true B m d es e2 (w.heap.size + 1 + 1) u → Calls Tryz.prog 67 #[.slice A7 m7 c7, .slice A6 m6 c6] u fun e w' => ∃ (A8 : Option Addr) (m8 c8 : Nat) (rs : List Nat), e = .returned (.slice A8 m8 c8) ∧ m8 ≤ 100001 ∧ CellsS w w.heap.size false A n c ds e1 (w.heap.size + 1) true B m d es e2 (w.heap.size + 1 + 1) w' ∧ Hid (Dig w' A8 m8 c8 rs ∧ D.Bare rs ∧ D.val rs = y - x)) := fun u d1 d2 hu => by
    have h := hu.2.2.2.2.2.2.out
    refine (rsub_any A7 m7 c7 qs A6 m6 c6 ps u d2 d1 HB.out.1 (by rw [HB.out.2.1, HB.out.2.2.2]; omega) (by omega) (by omega)).mono ?_
    rintro e w' ⟨A8, m8, c8, rs, rfl, q1, q2, q3, q4, q5⟩
    exact ⟨A8, m8, c8, rs, rfl, by omega, (h.below q5).cells, q2, q3, by rw [q4, HB.out.2.1, HB.out.2.2.2]⟩
  obtain ⟨z, hz⟩ : ∃ z, cmpZ x y = z := ⟨_, rfl⟩
  have HR := rcmp_any A6 m6 c6 ps A7 m7 c7 qs w2 G1 G2 HB.out.1 HB.out.2.2.1 (by omega) (by omega)
  rw [HB.out.2.1, HB.out.2.2.2, hz] at HR
  have HR := Lib.hid HR
  have b3 : decide (0 ≤ z) = false := by
    rw [← hz]
    rw [cmpZ_lt ho]; rfl
  have G1h := Lib.hid G1
  have G2h := Lib.hid G2
  clear hz
  clear K0 HP1 HP2 hY hP6 hP7 c1 c2 x1 x2 y1 y2 b1 G1 G2
  obtain ⟨x0, x1, x2, y0, y1, y2, _⟩ := hZ
  go_wp2_with fail
  refine HR.out.mono ?_
  rintro e w3 ⟨rfl, nq, rfl⟩
  have Hq := Lib.hid (HZ.out.below (below_drewN (Below.refl _ _) nq))
  have Zq := Lib.hid (HZ.out.below (below_drewN (Below.refl _ _) (nq + 1))).cells
  have Zr := Lib.hid (Hq.out.below (below_drew _)).cells
  have G1q := Lib.hid (G1h.out.drewN (nq + 1))
  have G2q := Lib.hid (G2h.out.drewN (nq + 1))
  obtain ⟨v0, v1, v2, s0, s1, s2, _⟩ := Hq.out.cells
  clear x0 x1 x2 y0 y1 y2 HR HZ Z0
  go_wp2_with fail
  go_region_held3 (fun w' => w'.cell? ⟨w.heap.size + 1, 0, none⟩ = some (.bool true))
    (first | (with_reducible exact Zq.out.2.2.2.1) | (with_reducible exact Zr.out.2.2.2.1) | (with_reducible exact Kp.out) | (with_reducible exact hX.2.2.2.1))
    ((go_at_call 67; (with_reducible refine (HC.out _ G1q.out G2q.out Zq.out).mono ?_); rintro e w9 ⟨A8, m8, c8, rs, rfl, hm8, hX, hP8⟩; have kb := hX.2.2.2.2.2.2.out.2; have u0 := kb.c0; have u1 := kb.c1; have u2 := kb.c2; have uf := kb.fz; have Hfin : Hid (NTold w ⟨true, y - x, e2⟩ 100001 (.returned (.agg #[.bool true, .slice A8 m8 c8, .int .i64 e2])) (World.put w9 (w.heap.size + 1 + 1) true A8 m8 c8 e2)) := ⟨A8, m8, c8, rs, rfl, hm8, kb.dig hP8.out.1 _ _ _ _ _, hP8.out.2.1, hP8.out.2.2, below_put hX.2.2.2.2.2.2.out.1.2.2.2.2 (by omega) _ _ _ _ _⟩; have hW := hX.2.2.2.2.2.2.out; have Kp : Hid (World.cell? (World.put w9 (w.heap.size + 1 + 1) true A8 m8 c8 e2) ⟨w.heap.size + 1, 0, none⟩ = some (.bool true)) := (hW.1.2.1.other (by omega) _ _ _ _ _).c0; clear kb hP8 hW))
  all_goals (
    go_wp2_with fail
    exact bodyPost_ret (v := .agg #[.bool true, .slice A8 m8 c8, .int .i64 e2]) (by simp [results, Tryz.results50, go_sem, u0, u1, u2]) rfl Hfin.out)

set_option maxHeartbeats 1000000 in
theorem radd_lt_G (x y q : Nat) (A : Option Addr) (n c : Nat) (ds : List Nat) (e1 : Int) (B : Option Addr) (m d : Nat) (es : List Nat) (e2 : Int) (w : World) (hA : Dig w A n c ds) (hB : Dig w B m d es) (ba : D.Bare ds) (bb : D.Bare es) (hn : n ≤ 1000) (hm : m ≤ 1000) (hn0 : n ≠ 0) (hm0 : m ≠ 0)
    (hd : e2 - e1 = (q : Int)) (hq : q ≤ 16000) (hx : Hid (D.val ds = x)) (hy : Hid (D.val es * 2 ^ q = y)) (ho : x < y) :
    Calls Tryz.prog 50 #[.agg #[.bool false, .slice A n c, .int .i64 e1], .agg #[.bool true, .slice B m d, .int .i64 e2]] w (NTold w ⟨true, y - x, e1⟩ 100001) := by
  have h0 : HS3 w w.heap.size false A n c ds e1 (w.heap.size + 1) true B m d es e2 (w.heap.size + 1 + 1) _ := HN.start3 w false A n c ds e1 true B m d es e2 hA hB
  have K0 := Lib.hid (h0.below (below_drew _)).cells
  have HP1 : Hid (∀ u, CellsS w w.heap.size false A n c ds e1 (w.heap.size + 1) true B m d es e2 (w.heap.size + 1 + 1) u → Calls Tryz.prog 64 #[.slice A n c, .int .i64 0] u fun e w' => ∃ (A6 : Option Addr) (m6 c6 : Nat) (ps : List Nat), e = .returned (.slice A6 m6 c6) ∧ m6 ≤ 100000 ∧ CellsS w w.heap.size false A n c ds e1 (w.heap.size + 1) true B m d es e2 (w.heap.size + 1 + 1) w' ∧ Hid (Dig w' A6 m6 c6 ps ∧ D.Bare ps ∧ D.val ps = x ∧ Below u.heap.size u w')) := fun u hu => by
    have h := hu.2.2.2.2.2.2.out
    have this := rshl_any A n c ds 0 u h.1.2.2.1 ba (by omega) (by omega)
    rw [show ((0 : Nat) : Int) = 0 from rfl, Nat.pow_zero, Nat.mul_one] at this
    rw [hx.out] at this
    refine this.mono ?_
    rintro e w' ⟨A6, m6, c6, ps, rfl, q1, q2, q3, q4, q5⟩
    exact ⟨A6, m6, c6, ps, rfl, q1, (h.below q5).cells, q2, q3, q4, q5⟩
  have HP2 : Hid (∀ u, CellsS w w.heap.size false A n c ds e1 (w.heap.size + 1) true B m d es e2 (w.heap.size + 1 + 1) u → Calls Tryz.prog 64 #[.slice B m d, .int .i64 (q : Int)] u fun e w' => ∃ (A6 : Option Addr) (m6 c6 : Nat) (ps : List Nat), e = .returned (.slice A6 m6 c6) ∧ m6 ≤ 100000 ∧ CellsS w w.heap.size false A n c ds e1 (w.heap.size + 1) true B m d es e2 (w.heap.size + 1 + 1) w' ∧ Hid (Dig w' A6 m6 c6 ps ∧ D.Bare ps ∧ D.val ps = y ∧ Below u.heap.size u w')) := fun u hu => by
    have h := hu.2.2.2.2.2.2.out
    have this := rshl_any B m d es q u h.1.2.2.2.1 bb (by omega) (by omega)
    rw [hy.out] at this
    refine this.mono ?_
    rintro e w' ⟨A6, m6, c6, ps, rfl, q1, q2, q3, q4, q5⟩
    exact ⟨A6, m6, c6, ps, rfl, q1, (h.below q5).cells, q2, q3, q4, q5⟩
  have hwq : IntKind.i64.wrap (q : Int) = (q : Int) := by rw [IntKind.wrap_i64]; omega
  have hw0 : IntKind.i64.wrap 0 = 0 := by decide
  have c1 : ((n : Int) == 0) = false := beq_no (by omega)
  have c2 : ((m : Int) == 0) = false := beq_no (by omega)
  have x1 := h0.1.1.c1
  have x2 := h0.1.1.c2
  have y1 := h0.1.2.1.c1
  have y2 := h0.1.2.1.c2
  have b1 : decide (e2 < e1) = false := decide_eq_false (by omega)
  clear hA hB ba bb hx hy h0 hn0 hm0
  go_enter Tryz.func50, Tryz.ntmps50
  go_wp2_with fail
  go_region_held3 (fun w' => w'.cell? ⟨w.heap.size, 0, none⟩ = some (.bool false) ∧ w'.cell? ⟨w.heap.size, 1, none⟩ = some (.slice A n c) ∧ w'.cell? ⟨w.heap.size, 2, none⟩ = some (.int .i64 e1) ∧ w'.cell? ⟨w.heap.size + 1, 0, none⟩ = some (.bool true) ∧ w'.cell? ⟨w.heap.size + 1, 1, none⟩ = some (.slice B m d) ∧ w'.cell? ⟨w.heap.size + 1, 2, none⟩ = some (.int .i64 e2) ∧ Hid (HS3 w w.heap.size false A n c ds e1 (w.heap.size + 1) true B m d es e2 (w.heap.size + 1 + 1) w'))
    (first | (with_reducible exact K0.out) | (with_reducible assumption))
    (first | (go_at_call 64; (with_reducible refine (HP1.out _ (by first | (with_reducible exact K0.out) | (with_reducible assumption))).mono ?_); rintro e w1 ⟨A6, m6, c6, ps, rfl, hm6, hY, hP6⟩) | (go_at_call 64; (with_reducible refine (HP2.out _ (by first | (with_reducible exact K0.out) | (with_reducible assumption))).mono ?_); rintro e w2 ⟨A7, m7, c7, qs, rfl, hm7, hZ, hP7⟩))
  have G1 := hP6.out.1.below hP7.out.2.2.2
  have G2 := hP7.out.1
  have HZ := Lib.hid hZ.2.2.2.2.2.2.out
  have HB := Lib.hid (And.intro hP6.out.2.1 (And.intro hP6.out.2.2.1 (And.intro hP7.out.2.1 hP7.out.2.2.1)))
  have Z0 := Lib.hid (HZ.out.below (below_drew _)).cells
  have HC : Hid (∀ u, Dig u A6 m6 c6 ps → Dig u A7 m7 c7 qs → CellsS w w.heap.size false A n c ds e1 (w.heap.size + 1) true B m d es e2 (w.heap.size + 1 + 1) u → Calls Tryz.prog 67 #[.slice A7 m7 c7, .slice A6 m6 c6] u fun e w' => ∃ (A8 : Option Addr) (m8 c8 : Nat) (rs : List Nat), e = .returned (.slice A8 m8 c8) ∧ m8 ≤ 100001 ∧ CellsS w w.heap.size false A n c ds e1 (w.heap.size + 1) true B m d es e2 (w.heap.size + 1 + 1) w' ∧ Hid (Dig w' A8 m8 c8 rs ∧ D.Bare rs ∧ D.val rs = y - x)) := fun u d1 d2 hu => by
    have h := hu.2.2.2.2.2.2.out
    refine (rsub_any A7 m7 c7 qs A6 m6 c6 ps u d2 d1 HB.out.1 (by rw [HB.out.2.1, HB.out.2.2.2]; omega) (by omega) (by omega)).mono ?_
    rintro e w' ⟨A8, m8, c8, rs, rfl, q1, q2, q3, q4, q5⟩
    exact ⟨A8, m8, c8, rs, rfl, by omega, (h.below q5).cells, q2, q3, by rw [q4, HB.out.2.1, HB.out.2.2.2]⟩
  obtain ⟨z, hz⟩ : ∃ z, cmpZ x y = z := ⟨_, rfl⟩
  have HR := rcmp_any A6 m6 c6 ps A7 m7 c7 qs w2 G1 G2 HB.out.1 HB.out.2.2.1 (by omega) (by omega)
  rw [HB.out.2.1, HB.out.2.2.2, hz] at HR
  have HR := Lib.hid HR
  have b3 : decide (0 ≤ z) = false := by
    rw [← hz]
    rw [cmpZ_lt ho]; rfl
  have G1h := Lib.hid G1
  have G2h := Lib.hid G2
  clear hz
  clear K0 HP1 HP2 hY hP6 hP7 c1 c2 x1 x2 y1 y2 b1 G1 G2
  obtain ⟨x0, x1, x2, y0, y1, y2, _⟩ := hZ
  go_wp2_with fail
  refine HR.out.mono ?_
  rintro e w3 ⟨rfl, nq, rfl⟩
  have Hq := Lib.hid (HZ.out.below (below_drewN (Below.refl _ _) nq))
  have Zq := Lib.hid (HZ.out.below (below_drewN (Below.refl _ _) (nq + 1))).cells
  have Zr := Lib.hid (Hq.out.below (below_drew _)).cells
  have G1q := Lib.hid (G1h.out.drewN (nq + 1))
  have G2q := Lib.hid (G2h.out.drewN (nq + 1))
  obtain ⟨v0, v1, v2, s0, s1, s2, _⟩ := Hq.out.cells
  clear x0 x1 x2 y0 y1 y2 HR HZ Z0
  go_wp2_with fail
  go_region_held3 (fun w' => w'.cell? ⟨w.heap.size + 1, 0, none⟩ = some (.bool true))
    (first | (with_reducible exact Zq.out.2.2.2.1) | (with_reducible exact Zr.out.2.2.2.1) | (with_reducible exact Kp.out) | (with_reducible exact hX.2.2.2.1))
    ((go_at_call 67; (with_reducible refine (HC.out _ G1q.out G2q.out Zq.out).mono ?_); rintro e w9 ⟨A8, m8, c8, rs, rfl, hm8, hX, hP8⟩; have kb := hX.2.2.2.2.2.2.out.2; have u0 := kb.c0; have u1 := kb.c1; have u2 := kb.c2; have uf := kb.fz; have Hfin : Hid (NTold w ⟨true, y - x, e1⟩ 100001 (.returned (.agg #[.bool true, .slice A8 m8 c8, .int .i64 e1])) (World.put w9 (w.heap.size + 1 + 1) true A8 m8 c8 e1)) := ⟨A8, m8, c8, rs, rfl, hm8, kb.dig hP8.out.1 _ _ _ _ _, hP8.out.2.1, hP8.out.2.2, below_put hX.2.2.2.2.2.2.out.1.2.2.2.2 (by omega) _ _ _ _ _⟩; have hW := hX.2.2.2.2.2.2.out; have Kp : Hid (World.cell? (World.put w9 (w.heap.size + 1 + 1) true A8 m8 c8 e1) ⟨w.heap.size + 1, 0, none⟩ = some (.bool true)) := (hW.1.2.1.other (by omega) _ _ _ _ _).c0; clear kb hP8 hW))
  all_goals (
    go_wp2_with fail
    exact bodyPost_ret (v := .agg #[.bool true, .slice A8 m8 c8, .int .i64 e1]) (by simp [results, Tryz.results50, go_sem, u0, u1, u2]) rfl Hfin.out)

end Go.Proofs.YtmmeejofepmgaaaGreatDoor
/- The document's numbers: planimeterref05.Cmp of two that aren't below 0, the second one above it. -/
namespace Go.Proofs.YtmmeejofepmgaaaGreatDoor
open Go.RowKit

section
variable {w : World} {b t : Nat} {g : Bool} {A : Option Addr} {n c : Nat} {e : Int}
theorem neg_heap (w : World) (b : Nat) (v : Value) (k : Nat) (hk : k ≠ b) : (w.setCell ⟨b, 0, none⟩ v).heap[k]? = w.heap[k]? := Below.heap_setCell _ _ _ _ hk
theorem neg_size (w : World) (b : Nat) (v : Value) : (w.setCell ⟨b, 0, none⟩ v).heap.size = w.heap.size := by simp [World.setCell]
theorem Bd.neg_ (h : Bd w b t g A n c e) (g' : Bool) : Bd (w.setCell ⟨b, 0, none⟩ (.bool g')) b t g' A n c e := by
  unfold Bd at h ⊢
  simp [World.setCell, Array.getElem?_modify, h]
theorem Bd.neg_other (h : Bd w b t g A n c e) {b' : Nat} (hb : b ≠ b') (v : Value) : Bd (w.setCell ⟨b', 0, none⟩ v) b t g A n c e := by
  unfold Bd; rw [neg_heap _ _ _ _ hb]; exact h
theorem Bd.neg_dig (h : Bd w b t g A n c e) {A1 : Option Addr} {n1 c1 : Nat} {ds : List Nat} (hA : Dig w A1 n1 c1 ds) (v : Value) : Dig (w.setCell ⟨b, 0, none⟩ v) A1 n1 c1 ds :=
  ⟨⟨hA.1.1, hA.1.2.1, fun hn => by
    obtain ⟨k, o, ek, hk, hc⟩ := hA.at_ hn
    have hne : k ≠ b := by
      rintro rfl
      have := h.not (hc 0 hn)
      cases this
    exact ⟨k, o, ek, by rw [neg_size]; exact hk, fun j hj => by rw [World.cell?_of_block (w := w) (neg_heap w b v k hne)]; exact hc j hj⟩⟩, hA.2⟩
end

theorem sz_both {V U q : Nat} {e1 e2 : Int} (h1 : -1073741824 ≤ e2) (h2 : e1 ≤ 1073741824) (hq : e1 - e2 = (q : Int)) : cmpZ (sz V e1) (sz U e2) = cmpZ (V * 2 ^ q) U := by
  have hh : held e1 = held e2 + q := by rw [held_id (by omega) h2, held_id h1 (by omega)]; omega
  rw [sz_shift hh]
  unfold sz
  exact cmpZ_times (Nat.two_pow_pos _)
theorem cmpZ_anti (x y : Nat) : cmpZ y x = - cmpZ x y := by
  rcases Nat.lt_trichotomy x y with h | h | h
  · rw [cmpZ_gt h, cmpZ_lt h]; rfl
  · rw [cmpZ_eq h, cmpZ_eq h.symm]; rfl
  · rw [cmpZ_lt h, cmpZ_gt h]
theorem sgD_ge {x y : Nat} (h : y ≤ x) : sgD false (x - y) = cmpZ x y := by
  unfold sgD
  by_cases he : x = y
  · rw [if_pos (by omega), cmpZ_eq he]
  · rw [if_neg (by omega), cmpZ_gt (by omega)]; rfl
theorem sgD_lt {x y : Nat} (h : x < y) : sgD true (y - x) = cmpZ x y := by
  unfold sgD
  rw [if_neg (by omega), cmpZ_lt h]; rfl

/-- One less another: its sign tells the order. -/
theorem radd_less (v : Int) (A : Option Addr) (n c : Nat) (ds : List Nat) (e1 : Int) (B : Option Addr) (m d : Nat) (es : List Nat) (e2 : Int) (w : World) (hA : Dig w A n c ds) (hB : Dig w B m d es) (ba : D.Bare ds) (bb : D.Bare es) (hn : n ≤ 1000) (hm : m ≤ 1000) (hn0 : n ≠ 0) (hm0 : m ≠ 0)
    (h1 : -1073741824 ≤ e1) (h2 : e1 ≤ 1073741824) (h3 : -1073741824 ≤ e2) (h4 : e2 ≤ 1073741824) (h5 : e1 ≤ e2 + 16000) (h6 : e2 ≤ e1 + 16000) (hv : cmpZ (sz (D.val ds) e1) (sz (D.val es) e2) = v) :
    Calls Tryz.prog 50 #[.agg #[.bool false, .slice A n c, .int .i64 e1], .agg #[.bool true, .slice B m d, .int .i64 e2]] w fun e w' => ∃ (o : Dy), NTold w o 100001 e w' ∧ sgD o.neg o.V = v := by
  by_cases hl : e2 < e1
  · obtain ⟨q, hq⟩ : ∃ q : Nat, e1 - e2 = (q : Int) := ⟨(e1 - e2).toNat, by omega⟩
    rw [sz_both h3 h2 hq] at hv
    obtain ⟨x, hx⟩ : ∃ x, D.val ds * 2 ^ q = x := ⟨_, rfl⟩
    obtain ⟨y, hy⟩ : ∃ y, D.val es = y := ⟨_, rfl⟩
    rw [hx, hy] at hv
    rcases Nat.lt_or_ge x y with ho | ho
    · refine (radd_lt_L x y q A n c ds e1 B m d es e2 w hA hB ba bb hn hm hn0 hm0 hq (by omega) hl hx hy ho).mono fun e w' h => ⟨_, h, by rw [← hv]; exact sgD_lt ho⟩
    · refine (radd_ge_L x y q A n c ds e1 B m d es e2 w hA hB ba bb hn hm hn0 hm0 hq (by omega) hl hx hy ho).mono fun e w' h => ⟨_, h, by rw [← hv]; exact sgD_ge ho⟩
  · obtain ⟨q, hq⟩ : ∃ q : Nat, e2 - e1 = (q : Int) := ⟨(e2 - e1).toNat, by omega⟩
    have hv2 : cmpZ (D.val ds) (D.val es * 2 ^ q) = v := by
      rw [cmpZ_anti, sz_both h1 h4 hq] at hv
      rw [cmpZ_anti]; exact hv
    obtain ⟨x, hx⟩ : ∃ x, D.val ds = x := ⟨_, rfl⟩
    obtain ⟨y, hy⟩ : ∃ y, D.val es * 2 ^ q = y := ⟨_, rfl⟩
    rw [hx, hy] at hv2
    rcases Nat.lt_or_ge x y with ho | ho
    · refine (radd_lt_G x y q A n c ds e1 B m d es e2 w hA hB ba bb hn hm hn0 hm0 hq (by omega) hx hy ho).mono fun e w' h => ⟨_, h, by rw [← hv2]; exact sgD_lt ho⟩
    · refine (radd_ge_G x y q A n c ds e1 B m d es e2 w hA hB ba bb hn hm hn0 hm0 hq (by omega) hx hy ho).mono fun e w' h => ⟨_, h, by rw [← hv2]; exact sgD_ge ho⟩

set_option maxHeartbeats 2000000 in
theorem rncmp_l (v : Int) (A : Option Addr) (n c : Nat) (ds : List Nat) (e1 : Int) (B : Option Addr) (m d : Nat) (es : List Nat) (e2 : Int) (w : World) (hA : Dig w A n c ds) (hB : Dig w B m d es) (ba : D.Bare ds) (bb : D.Bare es) (hn : n ≤ 900) (hm : m ≤ 900) (hU : D.val es ≠ 0)
    (h1 : -1073741824 ≤ e1) (h2 : e1 ≤ 1073741824) (h3 : -1073741824 ≤ e2) (h4 : e2 ≤ 1073741824) (hv : Hid (cmpZ (sz (D.val ds) e1) (sz (D.val es) e2) = v)) :
    Calls Tryz.prog 48 #[.agg #[.bool false, .slice A n c, .int .i64 e1], .agg #[.bool false, .slice B m d, .int .i64 e2]] w fun e w' => e = .returned (.int .i64 v) ∧ Below w.heap.size w w' := by
  obtain ⟨s1, hs1⟩ : ∃ s, sgD false (D.val ds) = s := ⟨_, rfl⟩
  have hs2 : sgD false (D.val es) = 1 := by unfold sgD; rw [if_neg hU]; rfl
  have H0 := Lib.hid ((HN.start w false A n c ds e1 false B m d es e2 hA hB).below (below_drew _))
  have HS1 : Hid (∀ u, CellsN w w.heap.size false A n c ds e1 (w.heap.size + 1) false B m d es e2 u → Calls Tryz.prog 8 #[.agg #[.bool false, .slice A n c, .int .i64 e1]] u fun e w' => e = .returned (.int .i64 s1) ∧ CellsN w w.heap.size false A n c ds e1 (w.heap.size + 1) false B m d es e2 w') := fun u hu => by
    have h := hu.2.2.2.2.2.2.out
    refine (rsign_l s1 false A n c ds e1 u h.2.2.1 ba hs1).mono ?_
    rintro e w' ⟨rfl, hb⟩
    exact ⟨rfl, (h.below hb).cells⟩
  have HS2 : Hid (∀ u, CellsN w w.heap.size false A n c ds e1 (w.heap.size + 1) false B m d es e2 u → Calls Tryz.prog 8 #[.agg #[.bool false, .slice B m d, .int .i64 e2]] u fun e w' => e = .returned (.int .i64 1) ∧ CellsN w w.heap.size false A n c ds e1 (w.heap.size + 1) false B m d es e2 w') := fun u hu => by
    have h := hu.2.2.2.2.2.2.out
    refine (rsign_l 1 false B m d es e2 u h.2.2.2.1 bb hs2).mono ?_
    rintro e w' ⟨rfl, hb⟩
    exact ⟨rfl, (h.below hb).cells⟩
  have hz := dnil_iff hA ba
  have hz2 := dnil_iff hB bb
  have lt1 := D.val_lt hA.words
  have lt2 := D.val_lt hB.words
  rw [hA.len, D.pw_two] at lt1
  rw [hB.len, D.pw_two] at lt2
  have bl1 := blen_le_iff.2 lt1
  have bl2 := blen_le_iff.2 lt2
  have hv' := hv.out
  have HBA := Lib.hid ba
  have HBB := Lib.hid bb
  clear hA hB ba bb lt1 lt2 hs2 hv
  by_cases hV : D.val ds = 0
  · obtain rfl : s1 = 0 := by rw [← hs1, hV]; rfl
    obtain rfl : v = -1 := by
      rw [← hv', hV, sz_zero, cmpZ_lt (sz_pos e2 hU)]
    clear hs1 hv' hz hz2 bl1 bl2 hV hU
    go_enter Tryz.func48, Tryz.ntmps48
    go_wp2_with fail
    go_region_held3 (fun w' => w'.cell? ⟨w.heap.size, 0, none⟩ = some (.bool false) ∧ w'.cell? ⟨w.heap.size, 1, none⟩ = some (.slice A n c) ∧ w'.cell? ⟨w.heap.size, 2, none⟩ = some (.int .i64 e1) ∧ w'.cell? ⟨w.heap.size + 1, 0, none⟩ = some (.bool false) ∧ w'.cell? ⟨w.heap.size + 1, 1, none⟩ = some (.slice B m d) ∧ w'.cell? ⟨w.heap.size + 1, 2, none⟩ = some (.int .i64 e2) ∧ Hid (HN w w.heap.size false A n c ds e1 (w.heap.size + 1) false B m d es e2 w'))
      (first | (with_reducible exact H0.out.cells) | (with_reducible assumption))
      (first | (go_at_call 8; (with_reducible refine (HS1.out _ (by with_reducible assumption)).mono ?_); rintro e w1 ⟨rfl, hY⟩) | (go_at_call 8; (with_reducible refine (HS2.out _ (by with_reducible assumption)).mono ?_); rintro e w2 ⟨rfl, hZ⟩))
    have HF := Lib.hid hZ.2.2.2.2.2.2.out.2.2.2.2
    clear hY hZ HS1 HS2 H0
    go_wp2_with fail
    go_ret
    exact ⟨rfl, HF.out⟩
  · obtain rfl : s1 = 1 := by rw [← hs1]; unfold sgD; rw [if_neg hV]; rfl
    have hn0 : n ≠ 0 := fun h => hV (hz.1 h)
    have hm0 : m ≠ 0 := fun h => hU (hz2.1 h)
    have B1 := blen_pos hV
    have B2 := blen_pos hU
    obtain ⟨t1, ht1⟩ : ∃ t, rtop (D.val ds) e1 = t := ⟨_, rfl⟩
    obtain ⟨t2, ht2⟩ : ∃ t, rtop (D.val es) e2 = t := ⟨_, rfl⟩
    have HT1 : Hid (∀ u, CellsN w w.heap.size false A n c ds e1 (w.heap.size + 1) false B m d es e2 u → Calls Tryz.prog 63 #[.agg #[.bool false, .slice A n c, .int .i64 e1]] u fun e w' => e = .returned (.int .i64 t1) ∧ CellsN w w.heap.size false A n c ds e1 (w.heap.size + 1) false B m d es e2 w') := fun u hu => by
      have h := hu.2.2.2.2.2.2.out
      refine (rtop_l t1 false A n c ds e1 u h.2.2.1 HBA.out (by omega) (by omega) (by omega) ht1).mono ?_
      rintro e w' ⟨rfl, hb⟩
      exact ⟨rfl, (h.below hb).cells⟩
    have HT2 : Hid (∀ u, CellsN w w.heap.size false A n c ds e1 (w.heap.size + 1) false B m d es e2 u → Calls Tryz.prog 63 #[.agg #[.bool false, .slice B m d, .int .i64 e2]] u fun e w' => e = .returned (.int .i64 t2) ∧ CellsN w w.heap.size false A n c ds e1 (w.heap.size + 1) false B m d es e2 w') := fun u hu => by
      have h := hu.2.2.2.2.2.2.out
      refine (rtop_l t2 false B m d es e2 u h.2.2.2.1 HBB.out (by omega) (by omega) (by omega) ht2).mono ?_
      rintro e w' ⟨rfl, hb⟩
      exact ⟨rfl, (h.below hb).cells⟩
    have htt : t1 ≠ t2 → cmpI t1 t2 = v := fun h => by
      have e1' : topD (D.val ds) e1 = t1 := by unfold topD; rw [held_id h1 h2]; exact ht1
      have e2' : topD (D.val es) e2 = t2 := by unfold topD; rw [held_id h3 h4]; exact ht2
      have := cmp_tops (e := e1) (f := e2) hV hU (by rw [e1', e2']; exact h)
      rw [e1', e2'] at this
      rw [this, hv']
    have hnear : t1 = t2 → e1 ≤ e2 + 16000 ∧ e2 ≤ e1 + 16000 := fun h => by
      unfold rtop at ht1 ht2
      omega
    have Hv := Lib.hid hv'
    clear hs1 hv' hz hz2 hV hU ht1 ht2
    go_enter Tryz.func48, Tryz.ntmps48
    go_wp2_with fail
    go_region_held3 (fun w' => w'.cell? ⟨w.heap.size, 0, none⟩ = some (.bool false) ∧ w'.cell? ⟨w.heap.size, 1, none⟩ = some (.slice A n c) ∧ w'.cell? ⟨w.heap.size, 2, none⟩ = some (.int .i64 e1) ∧ w'.cell? ⟨w.heap.size + 1, 0, none⟩ = some (.bool false) ∧ w'.cell? ⟨w.heap.size + 1, 1, none⟩ = some (.slice B m d) ∧ w'.cell? ⟨w.heap.size + 1, 2, none⟩ = some (.int .i64 e2) ∧ Hid (HN w w.heap.size false A n c ds e1 (w.heap.size + 1) false B m d es e2 w'))
      (first | (with_reducible exact H0.out.cells) | (with_reducible assumption))
      (first | (go_at_call 8; (with_reducible refine (HS1.out _ (by with_reducible assumption)).mono ?_); rintro e w1 ⟨rfl, hY⟩) | (go_at_call 8; (with_reducible refine (HS2.out _ (by with_reducible assumption)).mono ?_); rintro e w2 ⟨rfl, hZ⟩))
    have K0 := Lib.hid (hZ.2.2.2.2.2.2.out.below (below_drew _)).cells
    clear hY hZ HS1 HS2 H0
    go_wp2_with fail
    go_region_held3 (fun w' => w'.cell? ⟨w.heap.size, 0, none⟩ = some (.bool false) ∧ w'.cell? ⟨w.heap.size, 1, none⟩ = some (.slice A n c) ∧ w'.cell? ⟨w.heap.size, 2, none⟩ = some (.int .i64 e1) ∧ w'.cell? ⟨w.heap.size + 1, 0, none⟩ = some (.bool false) ∧ w'.cell? ⟨w.heap.size + 1, 1, none⟩ = some (.slice B m d) ∧ w'.cell? ⟨w.heap.size + 1, 2, none⟩ = some (.int .i64 e2) ∧ Hid (HN w w.heap.size false A n c ds e1 (w.heap.size + 1) false B m d es e2 w'))
      (first | (with_reducible exact K0.out) | (with_reducible assumption))
      (first | (go_at_call 63; (with_reducible refine (HT1.out _ (by first | (with_reducible exact K0.out) | (with_reducible assumption))).mono ?_); rintro e w3 ⟨rfl, hY⟩) | (go_at_call 63; (with_reducible refine (HT2.out _ (by with_reducible assumption)).mono ?_); rintro e w4 ⟨rfl, hZ⟩))
    have K4 := Lib.hid (hZ.2.2.2.2.2.2.out.below (below_drew _)).cells
    have H4 := Lib.hid hZ.2.2.2.2.2.2.out
    obtain ⟨x0, x1, x2, y0, y1, y2, _⟩ := hZ
    clear hY K0
    by_cases hq : t1 = t2
    · obtain ⟨hq1, hq2⟩ := hnear hq
      have c1 : (t1 != t2) = false := bne_no hq
      have j1 := H4.out.1.neg_other (b' := w.heap.size + 1) (by omega) (.bool true)
      have j2 := H4.out.2.1.neg_ true
      have j3 := H4.out.2.1.neg_dig H4.out.2.2.1 (.bool true)
      have j4 := H4.out.2.1.neg_dig H4.out.2.2.2.1 (.bool true)
      have j5 := H4.out.2.2.2.2.setCell (p := ⟨w.heap.size + 1, 0, none⟩) (by show w.heap.size ≤ w.heap.size + 1; omega) (.bool true)
      have yf := H4.out.2.1.fz
      have HA := Lib.hid (radd_less v A n c ds e1 B m d es e2 _ j3 j4 HBA.out HBB.out (by omega) (by omega) hn0 hm0 h1 h2 h3 h4 hq1 hq2 Hv.out)
      have HJ := Lib.hid j5
      clear j1 j2 j3 j4 j5 H4 K4 htt hnear hq hq1 hq2 Hv HT1 HT2 HBA HBB bl1 bl2 B1 B2 hn0 hm0
      go_wp2_with fail
      refine HA.out.mono ?_
      rintro e w5 ⟨⟨og, oV, oE⟩, ⟨A5, m5, c5, rs, rfl, hm5, hl5, hd5, hv5, hb5⟩, hs⟩
      have HG := Lib.hid (rsign_l v og A5 m5 c5 rs oE w5 hl5 hd5 (by rw [hv5]; exact hs))
      have HS5 := Lib.hid (HJ.out.trans (hb5.mono HJ.out.size))
      clear hl5 hd5 hv5 hb5 hs HA HJ x0 x1 x2 y0 y1 y2 yf
      go_wp2_with fail
      refine HG.out.mono ?_
      rintro e w6 ⟨rfl, hb6⟩
      have Hfin := Lib.hid (HS5.out.trans (hb6.mono HS5.out.size))
      clear hb6 HS5 HG
      go_wp2
      go_ret
      exact ⟨rfl, Hfin.out⟩
    · have hvv := htt hq
      have c1 : (t1 != t2) = true := bne_yes hq
      clear htt hnear Hv HBA HBB bl1 bl2 B1 B2 hn0 hm0 H4
      rcases Int.lt_or_le t1 t2 with hlt | hge
      · obtain rfl : v = -1 := by rw [← hvv]; exact cmpI_lt hlt
        have b1 : decide (t1 < t2) = true := decide_eq_true hlt
        clear hvv hq hlt
        go_wp2_with fail
        go_region_held3 (fun w' => w'.cell? ⟨w.heap.size, 0, none⟩ = some (.bool false) ∧ w'.cell? ⟨w.heap.size, 1, none⟩ = some (.slice A n c) ∧ w'.cell? ⟨w.heap.size, 2, none⟩ = some (.int .i64 e1) ∧ w'.cell? ⟨w.heap.size + 1, 0, none⟩ = some (.bool false) ∧ w'.cell? ⟨w.heap.size + 1, 1, none⟩ = some (.slice B m d) ∧ w'.cell? ⟨w.heap.size + 1, 2, none⟩ = some (.int .i64 e2) ∧ Hid (HN w w.heap.size false A n c ds e1 (w.heap.size + 1) false B m d es e2 w'))
          (first | (with_reducible exact K4.out) | (with_reducible assumption))
          (first | (go_at_call 63; (with_reducible refine (HT1.out _ (by first | (with_reducible exact K4.out) | (with_reducible assumption))).mono ?_); rintro e w5 ⟨rfl, hY⟩) | (go_at_call 63; (with_reducible refine (HT2.out _ (by with_reducible assumption)).mono ?_); rintro e w6 ⟨rfl, hZ⟩))
        all_goals (
          have HF := Lib.hid hZ.2.2.2.2.2.2.out.2.2.2.2
          clear hY hZ HT1 HT2 K4 x0 x1 x2 y0 y1 y2
          go_wp2_with fail
          go_ret
          exact ⟨rfl, HF.out⟩)
      · obtain rfl : v = 1 := by rw [← hvv]; exact cmpI_gt (by omega)
        have b1 : decide (t1 < t2) = false := decide_eq_false (by omega)
        clear hvv hq hge
        go_wp2_with fail
        go_region_held3 (fun w' => w'.cell? ⟨w.heap.size, 0, none⟩ = some (.bool false) ∧ w'.cell? ⟨w.heap.size, 1, none⟩ = some (.slice A n c) ∧ w'.cell? ⟨w.heap.size, 2, none⟩ = some (.int .i64 e1) ∧ w'.cell? ⟨w.heap.size + 1, 0, none⟩ = some (.bool false) ∧ w'.cell? ⟨w.heap.size + 1, 1, none⟩ = some (.slice B m d) ∧ w'.cell? ⟨w.heap.size + 1, 2, none⟩ = some (.int .i64 e2) ∧ Hid (HN w w.heap.size false A n c ds e1 (w.heap.size + 1) false B m d es e2 w'))
          (first | (with_reducible exact K4.out) | (with_reducible assumption))
          (first | (go_at_call 63; (with_reducible refine (HT1.out _ (by first | (with_reducible exact K4.out) | (with_reducible assumption))).mono ?_); rintro e w5 ⟨rfl, hY⟩) | (go_at_call 63; (with_reducible refine (HT2.out _ (by with_reducible assumption)).mono ?_); rintro e w6 ⟨rfl, hZ⟩))
        all_goals (
          have HF := Lib.hid hZ.2.2.2.2.2.2.out.2.2.2.2
          clear hY hZ HT1 HT2 K4 x0 x1 x2 y0 y1 y2
          go_wp2_with fail
          go_ret
          exact ⟨rfl, HF.out⟩)
end Go.Proofs.YtmmeejofepmgaaaGreatDoor
/- The document's rounding: planimeterref07.Limit, value, Below. -/
namespace Go.Proofs.YtmmeejofepmgaaaGreatDoor
open Go.RowKit

theorem dig_new1 (w : World) (t x : Nat) (X : Int) (hX : X = (x : Int)) (hx : x < 65536) : Dig (w.alloc (.cells #[.int .u32 X] t)) (some ⟨w.heap.size, 0, none⟩) 1 1 [x] :=
  ⟨⟨rfl, Nat.le_refl _, fun _ => ⟨w.heap.size, 0, rfl, by simp, fun k hk => by
    obtain rfl : k = 0 := by omega
    subst hX
    simp [World.cell?_alloc_new]⟩⟩, D.Words.one hx⟩
theorem dbare_one {x : Nat} (hx : x ≠ 0) : D.Bare [x] := by
  unfold D.Bare
  simp [D.tl, hx]
theorem dval_one (x : Nat) : D.val [x] = x := by show x + 65536 * 0 = x; omega

theorem limit_l (w : World) : Calls Tryz.prog 29 #[] w (NTold w ⟨false, 1, 1024⟩ 4) := by
  have a1 := below1 w (.cells #[.bool false, .slice (some ⟨w.heap.size + 1, 0, none⟩) 1 1, .int .i64 1024] 30)
  have a2 := below1 (w.alloc (.cells #[.bool false, .slice (some ⟨w.heap.size + 1, 0, none⟩) 1 1, .int .i64 1024] 30)) (.cells #[.int .u32 1] 50)
  have n1 := dig_new1 (w.alloc (.cells #[.bool false, .slice (some ⟨w.heap.size + 1, 0, none⟩) 1 1, .int .i64 1024] 30)) 50 1 1 rfl (by decide)
  rw [World.size_alloc] at n1
  have Hfin : Hid (NTold w ⟨false, 1, 1024⟩ 4 (.returned (.agg #[.bool false, .slice (some ⟨w.heap.size + 1, 0, none⟩) 1 1, .int .i64 1024])) ((w.alloc (.cells #[.bool false, .slice (some ⟨w.heap.size + 1, 0, none⟩) 1 1, .int .i64 1024] 30)).alloc (.cells #[.int .u32 1] 50))) :=
    ⟨_, 1, 1, [1], rfl, by decide, n1, dbare_one (by decide), dval_one 1, a1.trans (a2.mono a1.size)⟩
  clear a1 a2 n1
  go_enter Tryz.func29, Tryz.ntmps29
  go_wp2
  exact bodyPost_ret (v := .agg #[.bool false, .slice (some ⟨w.heap.size + 1, 0, none⟩) 1 1, .int .i64 1024]) (by simp [results, Tryz.results29, go_sem]) rfl Hfin.out

/-- The number of bits without a sign; infinity's is 2^1024. -/
def vO (b : Nat) : Dy := if b = 9218868437227405312 then ⟨false, 1, 1024⟩ else fO b
theorem sz_inf {e : Int} (h : e = 1024) : sz 1 e = vX 9218868437227405312 := by
  have h1 := sh_eq (e := e) (by omega) (by omega)
  have h2 := kb_eq
  rw [vX_inf, sz, Nat.one_mul]
  congr 1
  omega
theorem vO_facts {b : Nat} (hb : b ≤ 9218868437227405312) : (vO b).neg = false ∧ sz (vO b).V (vO b).e = vX b ∧ -1074 ≤ (vO b).e ∧ (vO b).e ≤ 1024 ∧ (vO b).V < 9007199254740992 ∧ ((vO b).V = 0 ↔ b = 0) := by
  by_cases h : b = 9218868437227405312
  · have e : vO b = ⟨false, 1, 1024⟩ := by unfold vO; rw [if_pos h]
    rw [e]
    refine ⟨rfl, ?_, by decide, by decide, by decide, ?_⟩
    · rw [h]; exact sz_inf (e := 1024) rfl
    · show (1 : Nat) = 0 ↔ b = 0; omega
  · have e : vO b = fO b := by unfold vO; rw [if_neg h]
    rw [e]
    have hf : Fnt b := by unfold Fnt fex; omega
    have hng : fng b = false := decide_eq_false (by omega)
    have hs := fO_size hf
    rw [Nat.mod_eq_of_lt (show b < 9223372036854775808 by omega)] at hs
    have hp := x_parts (X := b) (by omega)
    by_cases h0 : fm b = 0
    · have hz : fO b = ⟨false, 0, 0⟩ := fO_zero h0
      refine ⟨by rw [hz], hs, by rw [hz]; decide, by rw [hz]; decide, by rw [hz]; decide, ?_⟩
      rw [hz]
      show (0 : Nat) = 0 ↔ b = 0
      rw [h0] at hp
      constructor
      · intro _
        rcases Nat.eq_zero_or_pos (fE b) with h9 | h9
        · have := hp.1; rw [h9] at this; omega
        · have := hp.2.2.1 h9; omega
      · intro _; rfl
    · obtain ⟨k1, k2, k3⟩ := fO_pos hf h0
      have hbd := fe_bd hf
      have hl : low (fm b) < 53 := by
        refine (low_lt_iff (Nat.pos_of_ne_zero h0)).2 ?_
        have := (f_parts b).2.1
        show fm b % 9007199254740992 ≠ 0
        omega
      refine ⟨by rw [k1, hng], hs, by rw [k3]; omega, by rw [k3]; omega, ?_, ?_⟩
      · rw [k2]; exact Nat.lt_of_le_of_lt (Nat.div_le_self _ _) hp.2.1
      · rw [k2]
        constructor
        · intro h9; exact absurd (odd_part_zero.1 h9) h0
        · intro h9
          subst h9
          exact absurd (show fm 0 = 0 from by decide) h0

theorem rvalue_l (b : Nat) (hb : b ≤ 9218868437227405312) (w : World) : Calls Tryz.prog 51 #[.int .u64 (b : Int)] w (NTold w (vO b) 4) := by
  have a1 := below1 w (.cells #[.bool false, .slice none 0 0, .int .i64 0] 30)
  have HS := Lib.hid a1
  have Hb := Lib.hid (Bd.new w 30 false none 0 0 0)
  by_cases h : b = 9218868437227405312
  · have e : vO b = ⟨false, 1, 1024⟩ := by unfold vO; rw [if_pos h]
    rw [e]
    have H1 := Lib.hid (limit_l (w.alloc (.cells #[.bool false, .slice none 0 0, .int .i64 0] 30)))
    subst h
    clear a1 e hb
    go_enter Tryz.func51, Tryz.ntmps51
    go_wp2_with fail
    refine H1.out.mono ?_
    rintro e w2 ⟨A2, m2, c2, es, rfl, hm2, hl2, hd2, hv2, hB2⟩
    have k2 := Hb.out.below hB2
    have Hfin : Hid (NTold w ⟨false, 1, 1024⟩ 4 (.returned (.agg #[.bool false, .slice A2 m2 c2, .int .i64 1024])) (World.put w2 w.heap.size false A2 m2 c2 1024)) :=
      ⟨A2, m2, c2, es, rfl, hm2, k2.dig hl2 _ _ _ _ _, hd2, hv2, below_put (HS.out.trans (hB2.mono HS.out.size)) (Nat.le_refl _) _ _ _ _ _⟩
    have y0 := k2.c0
    have y1 := k2.c1
    have y2 := k2.c2
    have yf := k2.fz
    clear k2 hB2 hl2 hd2 hv2 H1 Hb HS
    go_wp2
    exact bodyPost_ret (v := .agg #[.bool false, .slice A2 m2 c2, .int .i64 1024]) (by simp [results, Tryz.results51, go_sem, y0, y1, y2]) rfl Hfin.out
  · have e : vO b = fO b := by unfold vO; rw [if_neg h]
    rw [e]
    have H1 := Lib.hid (worth_any b (by omega) (w.alloc (.cells #[.bool false, .slice none 0 0, .int .i64 0] 30)))
    have c1 : ((b : Int) == 9218868437227405312) = false := beq_no (by omega)
    generalize fO b = dd at H1 ⊢
    obtain ⟨dg, dV, dE⟩ := dd
    clear a1 e hb h
    go_enter Tryz.func51, Tryz.ntmps51
    go_wp2_with fail
    refine H1.out.mono ?_
    rintro e w2 ⟨A2, m2, c2, es, rfl, hm2, hl2, hd2, hv2, hB2⟩
    have k2 := Hb.out.below hB2
    have Hfin : Hid (NTold w ⟨dg, dV, dE⟩ 4 (.returned (.agg #[.bool dg, .slice A2 m2 c2, .int .i64 dE])) (World.put w2 w.heap.size dg A2 m2 c2 dE)) :=
      ⟨A2, m2, c2, es, rfl, hm2, k2.dig hl2 _ _ _ _ _, hd2, hv2, below_put (HS.out.trans (hB2.mono HS.out.size)) (Nat.le_refl _) _ _ _ _ _⟩
    have y0 := k2.c0
    have y1 := k2.c1
    have y2 := k2.c2
    have yf := k2.fz
    clear k2 hB2 hl2 hd2 hv2 H1 Hb HS
    go_wp2
    exact bodyPost_ret (v := .agg #[.bool dg, .slice A2 m2 c2, .int .i64 dE]) (by simp [results, Tryz.results51, go_sem, y0, y1, y2]) rfl Hfin.out
end Go.Proofs.YtmmeejofepmgaaaGreatDoor
/- The document's rounding: planimeterref07.Below. -/
namespace Go.Proofs.YtmmeejofepmgaaaGreatDoor
open Go.RowKit

/-- A number of the document, in its box. -/
def HoldB (w : World) (A : Option Addr) (n c : Nat) (ds : List Nat) (e0 : Int) (u : World) : Prop :=
  Bd u w.heap.size 30 false A n c e0 ∧ Dig u A n c ds ∧ Below w.heap.size w u
abbrev CellsB (w : World) (A : Option Addr) (n c : Nat) (ds : List Nat) (e0 : Int) (w' : World) : Prop :=
  w'.cell? ⟨w.heap.size, 0, none⟩ = some (.bool false) ∧ w'.cell? ⟨w.heap.size, 1, none⟩ = some (.slice A n c) ∧ w'.cell? ⟨w.heap.size, 2, none⟩ = some (.int .i64 e0) ∧ Hid (HoldB w A n c ds e0 w')
section
variable {w : World} {A : Option Addr} {n c : Nat} {ds : List Nat} {e0 : Int} {u u' : World}
theorem HoldB.below (h : HoldB w A n c ds e0 u) (hb : Below u.heap.size u u') : HoldB w A n c ds e0 u' := ⟨h.1.below hb, h.2.1.below hb, h.2.2.trans (hb.mono h.2.2.size)⟩
theorem HoldB.cells (h : HoldB w A n c ds e0 u) : CellsB w A n c ds e0 u := ⟨h.1.c0, h.1.c1, h.1.c2, h⟩
end

/-- A value, while a number is held. -/
theorem hold_value {w : World} {A : Option Addr} {n c : Nat} {ds : List Nat} {e0 : Int} (b : Nat) (hb : b ≤ 9218868437227405312) (u : World) (hu : CellsB w A n c ds e0 u) :
    Calls Tryz.prog 51 #[.int .u64 (b : Int)] u fun e w' => ∃ (A1 : Option Addr) (m1 c1 : Nat) (us : List Nat), e = .returned (.agg #[.bool false, .slice A1 m1 c1, .int .i64 (vO b).e]) ∧ m1 ≤ 4 ∧ CellsB w A n c ds e0 w' ∧ Hid (Dig w' A1 m1 c1 us ∧ D.Bare us ∧ D.val us = (vO b).V) := by
  refine (rvalue_l b hb u).mono ?_
  rintro e w' ⟨A1, m1, c1, us, rfl, h1, h2, h3, h4, h5⟩
  rw [(vO_facts hb).1]
  exact ⟨A1, m1, c1, us, rfl, h1, (hu.2.2.2.out.below h5).cells, h2, h3, h4⟩
/-- .. held against it. -/
theorem hold_cmp {w : World} {A : Option Addr} {n c : Nat} {ds : List Nat} {e0 : Int} (v : Int) (b : Nat) (hb : b ≤ 9218868437227405312) (hn : n ≤ 240) (ba : D.Bare ds) (hV : D.val ds ≠ 0) (h1 : -1073741824 ≤ e0) (h2 : e0 ≤ 1073741824) (hv : cmpZ (vX b) (sz (D.val ds) e0) = v)
    (A1 : Option Addr) (m1 c1 : Nat) (us : List Nat) (E1 : Int) (hE : (vO b).e = E1) (u : World) (hu : CellsB w A n c ds e0 u) (hm : m1 ≤ 4) (hP : Dig u A1 m1 c1 us ∧ D.Bare us ∧ D.val us = (vO b).V) :
    Calls Tryz.prog 48 #[.agg #[.bool false, .slice A1 m1 c1, .int .i64 E1], .agg #[.bool false, .slice A n c, .int .i64 e0]] u fun e w' => e = .returned (.int .i64 v) ∧ CellsB w A n c ds e0 w' := by
  have hf := vO_facts hb
  have h := hu.2.2.2.out
  subst hE
  refine (rncmp_l v A1 m1 c1 us (vO b).e A n c ds e0 u hP.1 h.2.1 hP.2.1 ba (by omega) (by omega) hV (by omega) (by omega) h1 h2 (by rw [hP.2.2, hf.2.1]; exact hv)).mono ?_
  rintro e w' ⟨rfl, hb'⟩
  exact ⟨rfl, (h.below hb').cells⟩


end Go.Proofs.YtmmeejofepmgaaaGreatDoor
/- The document's rounding: planimeterref07.Middle. -/
namespace Go.Proofs.YtmmeejofepmgaaaGreatDoor
open Go.RowKit

theorem dig_len_b {ds : List Nat} {k : Nat} (hb : D.Bare ds) (h : blen (D.val ds) ≤ 16 * k) : ds.length ≤ k := dig_len hb (blen_le_iff.1 h)
/-- The sum of what some bits and the next ones are worth. -/
theorem next_sum {b : Nat} (hb : b < 9218868437227405312) : ∃ (V : Nat) (e : Int), V ≠ 0 ∧ blen V ≤ 2240 ∧ -1074 ≤ e ∧ e ≤ 1024 ∧ sz V e = vX b + vX (b + 1) ∧
    ∀ (A : Option Addr) (n c : Nat) (ds : List Nat) (B : Option Addr) (m d : Nat) (es : List Nat) (w : World), Dig w A n c ds → Dig w B m d es → D.Bare ds → D.Bare es → n ≤ 4 → m ≤ 4 → D.val ds = (vO b).V → D.val es = (vO (b + 1)).V →
      Calls Tryz.prog 50 #[.agg #[.bool false, .slice A n c, .int .i64 (vO b).e], .agg #[.bool false, .slice B m d, .int .i64 (vO (b + 1)).e]] w (NTold w ⟨false, V, e⟩ 100001) := by
  obtain ⟨_, a2, a3, a4, a5, a6⟩ := vO_facts (b := b) (by omega)
  obtain ⟨_, c2, c3, c4, c5, c6⟩ := vO_facts (b := b + 1) (by omega)
  generalize (vO b).V = V1 at *
  generalize (vO b).e = e1 at *
  generalize (vO (b + 1)).V = V2 at *
  generalize (vO (b + 1)).e = e2 at *
  have hV2 : V2 ≠ 0 := fun h => by have := c6.1 h; omega
  obtain ⟨K, hK⟩ : ∃ K : Nat, K = 2153 := ⟨_, rfl⟩
  have hs : ∀ q : Nat, q ≤ 2100 → ∀ V : Nat, V < 9007199254740992 → V * 2 ^ q < 2 ^ K := fun q hq V hV => by
    have h1 : V * 2 ^ q < 2 ^ 53 * 2 ^ q := Nat.mul_lt_mul_of_pos_right hV (Nat.two_pow_pos _)
    rw [← Nat.pow_add] at h1
    exact Nat.lt_of_lt_of_le h1 (Nat.pow_le_pow_right (by decide) (by omega))
  have hbig : ∀ x y : Nat, x < 2 ^ K → y < 2 ^ K → blen (x + y) ≤ 2240 := fun x y hx hy => by
    have h0 : x + y < 2 ^ (K + 1) := by rw [Nat.pow_succ]; omega
    have h2 := blen_le_iff.2 h0
    omega
  have szadd : ∀ (x y : Nat) (e : Int), sz (x + y) e = sz x e + sz y e := fun x y e => by unfold sz; rw [Nat.add_mul]
  by_cases h0 : V1 = 0
  · refine ⟨V2, e2, hV2, ?_, c3, c4, ?_, ?_⟩
    · have := hbig 0 V2 (Nat.two_pow_pos _) (by have := hs 0 (by decide) V2 c5; rwa [Nat.pow_zero, Nat.mul_one] at this)
      rwa [Nat.zero_add] at this
    · rw [c2, ← a2, h0, sz_zero, Nat.zero_add]
    · intro A n c ds B m d es w hA hB ba bb hn hm hv1 hv2
      obtain rfl : n = 0 := (dnil_iff hA ba).2 (hv1.trans h0)
      refine (radd_zero false A c e1 false B m d es e2 w hB bb).mono ?_
      rintro e w' ⟨A5, m5, c5, rs, rfl, k1, k2, k3, k4, k5⟩
      exact ⟨A5, m5, c5, rs, rfl, by omega, k2, k3, k4.trans hv2, k5⟩
  · by_cases hl : e2 < e1
    · obtain ⟨q, hq⟩ : ∃ q : Nat, e1 - e2 = (q : Int) := ⟨(e1 - e2).toNat, by omega⟩
      have hh : held e1 = held e2 + q := by rw [held_id (by omega) (by omega), held_id (by omega) (by omega)]; omega
      refine ⟨V1 * 2 ^ q + V2, e2, by omega, ?_, c3, c4, ?_, ?_⟩
      · exact hbig _ _ (hs q (by omega) V1 a5) (by have := hs 0 (by decide) V2 c5; rwa [Nat.pow_zero, Nat.mul_one] at this)
      · rw [szadd, ← sz_shift hh, a2, c2]
      · intro A n c ds B m d es w hA hB ba bb hn hm hv1 hv2
        exact radd_sum_L (V1 * 2 ^ q) V2 q A n c ds e1 B m d es e2 w hA hB ba bb (by omega) (by omega) (fun h => h0 (hv1.symm.trans ((dnil_iff hA ba).1 h))) (fun h => hV2 (hv2.symm.trans ((dnil_iff hB bb).1 h))) hq (by omega) hl (by rw [hv1]; rfl) hv2
    · obtain ⟨q, hq⟩ : ∃ q : Nat, e2 - e1 = (q : Int) := ⟨(e2 - e1).toNat, by omega⟩
      have hh : held e2 = held e1 + q := by rw [held_id (by omega) (by omega), held_id (by omega) (by omega)]; omega
      refine ⟨V1 + V2 * 2 ^ q, e1, by omega, ?_, a3, a4, ?_, ?_⟩
      · exact hbig _ _ (by have := hs 0 (by decide) V1 a5; rwa [Nat.pow_zero, Nat.mul_one] at this) (hs q (by omega) V2 c5)
      · rw [szadd, ← sz_shift hh, a2, c2]
      · intro A n c ds B m d es w hA hB ba bb hn hm hv1 hv2
        exact radd_sum_G V1 (V2 * 2 ^ q) q A n c ds e1 B m d es e2 w hA hB ba bb (by omega) (by omega) (fun h => h0 (hv1.symm.trans ((dnil_iff hA ba).1 h))) (fun h => hV2 (hv2.symm.trans ((dnil_iff hB bb).1 h))) hq (by omega) hv1 (by rw [hv2]; rfl)

theorem mid_spec {b : Nat} (hb : b < 9218868437227405312) : ∃ (V : Nat) (E : Int), V ≠ 0 ∧ -1073741824 ≤ E ∧ E ≤ 1073741824 ∧ 2 * sz V E = vX b + vX (b + 1) ∧
    ∀ w, Calls Tryz.prog 31 #[.int .u64 (b : Int)] w (NTold w ⟨false, V, E⟩ 140) := by
  obtain ⟨V, e, h1, h2, h3, h4, h5, h6⟩ := next_sum hb
  refine ⟨V, e - 1, h1, by omega, by omega, ?_, ?_⟩
  · have hh : held e = held (e - 1) + (1 : Nat) := by rw [held_id (by omega) (by omega), held_id (by omega) (by omega)]; omega
    rw [← h5, sz_shift hh]
    unfold sz
    rw [Nat.pow_one, Nat.mul_comm V 2, Nat.mul_assoc]
  · intro w
    have a1 := below1 w (.cells #[.bool false, .slice none 0 0, .int .i64 0] 30)
    have HS := Lib.hid a1
    have Hb := Lib.hid (Bd.new w 30 false none 0 0 0)
    have H1 := rvalue_l b (by omega) (w.alloc (.cells #[.bool false, .slice none 0 0, .int .i64 0] 30))
    have H2 := fun u => rvalue_l (b + 1) (by omega) u
    have g1 := (vO_facts (b := b) (by omega)).1
    have g2 := (vO_facts (b := b + 1) (by omega)).1
    obtain ⟨⟨d0, d1, d2⟩, hd⟩ : ∃ dd, vO b = dd := ⟨_, rfl⟩
    obtain ⟨⟨k0, k1, k2⟩, hk⟩ : ∃ dd, vO (b + 1) = dd := ⟨_, rfl⟩
    rw [hd] at H1 g1 h6
    rw [hk] at H2 g2 h6
    simp only at g1 g2 h6
    subst g1 g2
    have H1 := Lib.hid H1
    have H2 := Lib.hid H2
    have H6 := Lib.hid h6
    have Hlt := Lib.hid h2
    obtain ⟨b', hb'⟩ : ∃ b', b + 1 = b' := ⟨_, rfl⟩
    have e1 : (b : Int) + 1 = (b' : Int) := by omega
    rw [hb'] at H2
    have hbb : b' ≤ 9218868437227405312 := by omega
    clear a1 h1 h2 h5 h6 hd hk hb' hb
    go_enter Tryz.func31, Tryz.ntmps31
    go_wp2_with fail
    refine H1.out.mono ?_
    rintro e w1 ⟨A1, m1, c1, us, rfl, hm1, hl1, hd1, hv1, hB1⟩
    have Hb1 := Lib.hid (Hb.out.below hB1)
    have HS1 := Lib.hid (HS.out.trans (hB1.mono HS.out.size))
    have HL1 := Lib.hid hl1
    have HD1 := Lib.hid (And.intro hd1 hv1)
    clear hl1 hd1 hv1 hB1 Hb HS H1
    go_wp2_with fail
    refine (H2.out _).mono ?_
    rintro e w2 ⟨A2, m2, c2, vs, rfl, hm2, hl2, hd2, hv2, hB2⟩
    have Hb2 := Lib.hid (Hb1.out.below hB2)
    have HS2 := Lib.hid (HS1.out.trans (hB2.mono HS1.out.size))
    have H3 := Lib.hid (H6.out A1 m1 c1 us A2 m2 c2 vs w2 (HL1.out.below hB2) hl2 HD1.out.1 hd2 hm1 hm2 HD1.out.2 hv2)
    clear hl2 hd2 hv2 hB2 Hb1 HS1 H2 HL1 HD1 H6
    go_wp2_with fail
    refine H3.out.mono ?_
    rintro e w3 ⟨A3, m3, c3, rs, rfl, hm3, hl3, hd3, hv3, hB3⟩
    have hm4 : m3 ≤ 140 := by
      rw [← hl3.len]
      exact dig_len_b hd3 (by rw [hv3]; exact Hlt.out)
    have a4 := below1 w3 (.cells #[.bool false, .slice A3 m3 c3, .int .i64 (e - 1)] 30)
    have k4 := (Hb2.out.below hB3).below a4
    have HS4 := (HS2.out.trans (hB3.mono HS2.out.size)).trans (a4.mono (HS2.out.trans (hB3.mono HS2.out.size)).size)
    have Hfin : Hid (NTold w ⟨false, V, e - 1⟩ 140 (.returned (.agg #[.bool false, .slice A3 m3 c3, .int .i64 (e - 1)])) (World.put (w3.alloc (.cells #[.bool false, .slice A3 m3 c3, .int .i64 (e - 1)] 30)) w.heap.size false A3 m3 c3 (e - 1))) :=
      ⟨A3, m3, c3, rs, rfl, hm4, k4.dig (hl3.below a4) _ _ _ _ _, hd3, hv3, below_put HS4 (Nat.le_refl _) _ _ _ _ _⟩
    have kk := Hb2.out.below hB3
    have y0 := fun o => (kk.alloc o).c0
    have y1 := fun o => (kk.alloc o).c1
    have y2 := fun o => (kk.alloc o).c2
    have yf := fun o => (kk.alloc o).fz
    clear a4 k4 kk HS4 hl3 hd3 hv3 hB3 Hb2 HS2 H3 Hlt
    go_wp2
    exact bodyPost_ret (v := .agg #[.bool false, .slice A3 m3 c3, .int .i64 (e - 1)]) (by simp [results, Tryz.results31, go_sem, y0, y1, y2]) rfl Hfin.out
end Go.Proofs.YtmmeejofepmgaaaGreatDoor
/- The walks of next.Up, Down, unit. -/
namespace Go.Proofs.YtmmeejofepmgaaaGreatDoor
open Go.RowKit

/-- What Up tells of a number. -/
def nupX (b : Nat) : Nat := if fm b = 0 then 1 else if fng b then b - 1 else b + 1
/-- .. and Down. -/
def ndnX (b : Nat) : Nat := flp (nupX (flp b))

theorem nup_lt {b : Nat} (hb : b < 18446744073709551616) (hf : Fnt b) : nupX b < 18446744073709551616 := by
  unfold nupX
  have h1 := fin_lt hf
  by_cases h0 : fm b = 0
  · rw [if_pos h0]; decide
  · rw [if_neg h0]
    by_cases h : 9223372036854775808 ≤ b
    · rw [show fng b = true from decide_eq_true h, if_pos rfl]; omega
    · rw [show fng b = false from decide_eq_false h, if_neg (by decide)]; omega





/-- What unit tells. -/
def duni (V : Nat) (e : Int) : Int := if V = 0 then -1074 else max (topD V e - 52) (-1074)
theorem unit_l (u : Int) (g : Bool) (A : Option Addr) (n c : Nat) (xs : List Nat) (e0 : Int) (w : World) (hA : Lim w A n c xs) (hn : n ≤ 4294967296) (hu : Hid (duni (val xs) e0 = u)) :
    Calls Tryz.prog 25 #[.agg #[.bool g, .slice A n c, .int .i64 e0]] w fun e w' => e = .returned (.int .i64 u) ∧ Below w.heap.size w w' := by
  have a1 := below1 w (.cells #[.bool g, .slice A n c, .int .i64 e0] 32)
  have HS := Lib.hid a1
  have hu' := hu.out
  unfold duni at hu'
  by_cases h0 : val xs = 0
  · rw [if_pos h0] at hu'
    subst hu'
    have H1 := Lib.hid (top_zero g A n c xs e0 _ (hA.below a1) hn h0)
    clear a1 h0 hA hu
    go_enter Tryz.func25, Tryz.ntmps25
    go_wp2_with fail
    refine H1.out.mono ?_
    rintro e w1 ⟨rfl, hb⟩
    have Hfin := Lib.hid (HS.out.trans (hb.mono HS.out.size))
    clear hb H1 HS
    go_wp2
    go_ret
    exact ⟨rfl, Hfin.out⟩
  · rw [if_neg h0] at hu'
    obtain ⟨T, hT⟩ : ∃ T, topD (val xs) e0 = T := ⟨_, rfl⟩
    have H1 := Lib.hid (top_l T g A n c xs e0 _ (hA.below a1) hn h0 hT)
    have hbl := hA.blen_le
    have hh := held_bd e0
    have hB := blen_pos h0
    have hT' := hT
    unfold topD at hT'
    have b1 : -2147483648 ≤ T := by omega
    have b2 : T ≤ 300000000000 := by omega
    rw [hT] at hu'
    have HU := Lib.hid hu'
    clear a1 h0 hA hu hu' hT hbl hh hB hT'
    go_enter Tryz.func25, Tryz.ntmps25
    go_wp2_with fail
    refine H1.out.mono ?_
    rintro e w1 ⟨rfl, hb⟩
    have Hfin := Lib.hid (HS.out.trans (hb.mono HS.out.size))
    clear hb H1 HS
    go_wp2
    go_ret
    exact ⟨ret_int HU.out, Hfin.out⟩
end Go.Proofs.YtmmeejofepmgaaaGreatDoor
/- The walk of next.Break. -/
namespace Go.Proofs.YtmmeejofepmgaaaGreatDoor
open Go.RowKit

/-- A dyad in its box b, and its list. -/
def HoldD (w : World) (b : Nat) (g : Bool) (A : Option Addr) (n c : Nat) (xs : List Nat) (e0 : Int) (u : World) : Prop :=
  Bd u b 32 g A n c e0 ∧ Lim u A n c xs ∧ Tab u ∧ Below w.heap.size w u
abbrev CellsD (w : World) (b : Nat) (g : Bool) (A : Option Addr) (n c : Nat) (xs : List Nat) (e0 : Int) (w' : World) : Prop :=
  w'.cell? ⟨b, 0, none⟩ = some (.bool g) ∧ w'.cell? ⟨b, 1, none⟩ = some (.slice A n c) ∧ w'.cell? ⟨b, 2, none⟩ = some (.int .i64 e0) ∧ Hid (HoldD w b g A n c xs e0 w')
section
variable {w : World} {b : Nat} {g : Bool} {A : Option Addr} {n c : Nat} {xs : List Nat} {e0 : Int} {u u' : World}
theorem HoldD.below (h : HoldD w b g A n c xs e0 u) (hb : Below u.heap.size u u') : HoldD w b g A n c xs e0 u' := ⟨h.1.below hb, h.2.1.below hb, h.2.2.1.below hb, h.2.2.2.trans (hb.mono h.2.2.2.size)⟩
theorem HoldD.cells (h : HoldD w b g A n c xs e0 u) : CellsD w b g A n c xs e0 u := ⟨h.1.c0, h.1.c1, h.1.c2, h⟩
end

set_option maxHeartbeats 1000000 in
theorem break_l (v : Bool) (g : Bool) (A : Option Addr) (n c : Nat) (xs : List Nat) (e0 : Int) (w : World) (hA : Lim w A n c xs) (hn : n ≤ 4294967296) (hT : Tab w) (hv : Hid (brkO (mk g (val xs) e0) = v)) :
    Calls Tryz.prog 9 #[.agg #[.bool g, .slice A n c, .int .i64 e0]] w fun e w' => e = .returned (.bool v) ∧ Below w.heap.size w w' := by
  have a3 := below1 w (.cells #[.bool g, .slice A n c, .int .i64 e0] 32)
  have H1 := Lib.hid (dbare_any g A n c xs e0 _ (hA.below a3) hn (hT.below a3))
  have HT := Lib.hid (hT.below a3)
  have Hb := Lib.hid (Bd.new w 32 g A n c e0)
  have HS := Lib.hid a3
  obtain ⟨o, ho⟩ : ∃ o, mk g (val xs) e0 = o := ⟨_, rfl⟩
  rw [ho] at H1
  have hv' := hv.out
  rw [ho] at hv'
  clear a3 hA hT hv
  go_enter Tryz.func9, Tryz.ntmps9
  go_wp2_with fail
  refine H1.out.mono ?_
  rintro e w1 ⟨g1, A1, m1, c1, zs, E1, r1, rfl, hm1, hl1, hb1, his, hB1⟩
  have Hk1 := Lib.hid (Hb.out.below hB1)
  have HS1 := Lib.hid (below_put (HS.out.trans (hB1.mono HS.out.size)) (Nat.le_refl _) g1 A1 m1 c1 E1)
  have x0 := Hk1.out.c0
  have x1 := Hk1.out.c1
  have x2 := Hk1.out.c2
  have xf := Hk1.out.fz
  cases o with
  | none =>
    obtain ⟨rfl, rfl, hz, rfl⟩ := his
    obtain rfl : false = v := hv'
    clear ho H1 HT Hb HS hl1 hb1 hz hB1 Hk1
    go_wp2
    go_ret
    exact ⟨rfl, HS1.out⟩
  | some d =>
    obtain ⟨rfl, hg, hz, hE⟩ := his
    have hfine := (mk_fine ho).1
    obtain ⟨dg, dV, dE⟩ := d
    simp only at hg hz hE
    subst hg hE
    have hfe1 := hfine.1
    have hfe2 := hfine.2.1
    simp only at hfe1 hfe2
    have HK : HoldD w w.heap.size g1 A1 m1 c1 zs E1 _ := ⟨Hk1.out.put g1 A1 m1 c1 E1, Hk1.out.lim hl1 g1 A1 m1 c1 E1, Hk1.out.tab (HT.out.below hB1) g1 A1 m1 c1 E1, HS1.out⟩
    have K1 := Lib.hid HK
    have hbl := hl1.blen_le
    rw [hz] at hbl
    have y0 := K1.out.1.c0
    have y1 := K1.out.1.c1
    have y2 := K1.out.1.c2
    clear ho H1 HT Hb HS HS1 hl1 hb1 hB1 Hk1 HK hfine
    unfold brkO at hv'
    simp only at hv'
    by_cases h0 : dV = 0
    · rw [if_pos h0] at hv'
      subst hv'
      have H2 := Lib.hid (top_zero g1 A1 m1 c1 zs E1 _ K1.out.2.1 (by omega) (hz.trans h0))
      clear h0 hz hbl hfe1 hfe2
      go_wp2_with fail
      refine H2.out.mono ?_
      rintro e w2 ⟨rfl, hB2⟩
      have Hfin := Lib.hid (K1.out.below hB2).2.2.2
      clear hB2 H2 K1
      go_wp2
      go_ret
      exact ⟨rfl, Hfin.out⟩
    · rw [if_neg h0] at hv'
      obtain ⟨T, hT⟩ : ∃ T, rtop dV E1 = T := ⟨_, rfl⟩
      have hT' := hT
      unfold rtop at hT'
      have hB := blen_pos h0
      have H2 := Lib.hid (top_l T g1 A1 m1 c1 zs E1 _ K1.out.2.1 (by omega) (by rw [hz]; exact h0) (by show topD _ _ = T; rw [hz, topD, held_id hfe1 hfe2]; exact hT'))
      have hT1 : -1073741824 ≤ T := by omega
      have hT2 : T ≤ 300000000000 := by omega
      rw [hT] at hv'
      by_cases q1 : 1024 ≤ T
      · rw [if_pos q1] at hv'
        have b1 : decide ((1024 : Int) ≤ T) = true := decide_eq_true q1
        by_cases q2 : T = 1024
        · have b2 : (T == 1024) = true := beq_yes q2
          obtain ⟨p, hp⟩ : ∃ p, (E1 == 1024) = p := ⟨_, rfl⟩
          obtain rfl : p = v := by
            rw [← hv', ← hp, q2]
            by_cases h : E1 = 1024
            · rw [beq_yes h, decide_eq_true ⟨rfl, h⟩]
            · rw [beq_no h, decide_eq_false (fun k => h k.2)]
          clear hv' hT hT' q1 q2 h0 hz hbl hB
          go_wp2_with fail
          refine H2.out.mono ?_
          rintro e w2 ⟨rfl, hB2⟩
          have K2 := K1.out.below hB2
          have Hfin := Lib.hid K2.2.2.2
          have z2 := K2.1.c2
          clear hB2 H2 K1 K2
          go_wp2
          go_ret
          exact ⟨rfl, Hfin.out⟩
        · have b2 : (T == 1024) = false := beq_no q2
          obtain rfl : false = v := by rw [← hv']; exact (decide_eq_false (fun k => q2 k.1)).symm
          clear hv' hT hT' q1 q2 h0 hz hbl hB
          go_wp2_with fail
          refine H2.out.mono ?_
          rintro e w2 ⟨rfl, hB2⟩
          have K2 := K1.out.below hB2
          have Hfin := Lib.hid K2.2.2.2
          have z2 := K2.1.c2
          clear hB2 H2 K1 K2
          go_wp2
          go_ret
          exact ⟨rfl, Hfin.out⟩
      · rw [if_neg q1] at hv'
        have b1 : decide ((1024 : Int) ≤ T) = false := decide_eq_false q1
        obtain ⟨u, hu⟩ : ∃ u, ru dV E1 = u := ⟨_, rfl⟩
        have hu' := hu
        unfold ru at hu'
        have hu1 : -1074 ≤ u := by omega
        have hu2 : u ≤ 2000 := by omega
        rw [hu] at hv'
        have HU : Hid (∀ s, CellsD w w.heap.size g1 A1 m1 c1 zs E1 s → Calls Tryz.prog 25 #[.agg #[.bool g1, .slice A1 m1 c1, .int .i64 E1]] s fun e w' => e = .returned (.int .i64 u) ∧ CellsD w w.heap.size g1 A1 m1 c1 zs E1 w') := fun s hs => by
          have h := hs.2.2.2.out
          refine (unit_l u g1 A1 m1 c1 zs E1 s h.2.1 (by omega) ?_).mono ?_
          · show duni (val zs) E1 = u
            rw [hz, duni, if_neg h0, topD, held_id hfe1 hfe2]
            exact hu'
          · rintro e w' ⟨rfl, hb'⟩
            exact ⟨rfl, (h.below hb').cells⟩
        have Hv : Hid (decide (IntKind.i64.wrap (u - 1) ≤ E1) = v) := by rw [show IntKind.i64.wrap (u - 1) = u - 1 from by rw [IntKind.wrap_i64]; omega]; exact hv'
        clear hv' hT hT' hu' hu q1 h0 hz hbl hB
        go_wp2_with fail
        refine H2.out.mono ?_
        rintro e w2 ⟨rfl, hB2⟩
        have K2 := K1.out.below hB2
        have K3 := Lib.hid (K2.below (below_drew _)).cells
        clear hB2 H2 K1 K2
        go_wp2_with fail
        go_region_held3 (fun w' => w'.cell? ⟨w.heap.size, 0, none⟩ = some (.bool g1) ∧ w'.cell? ⟨w.heap.size, 1, none⟩ = some (.slice A1 m1 c1) ∧ w'.cell? ⟨w.heap.size, 2, none⟩ = some (.int .i64 E1) ∧ Hid (HoldD w w.heap.size g1 A1 m1 c1 zs E1 w'))
          (first | (with_reducible exact K3.out) | (with_reducible assumption))
          (first | (go_at_call 25; (with_reducible refine (HU.out _ (by first | (with_reducible exact K3.out) | (with_reducible assumption))).mono ?_); rintro e w3 ⟨rfl, hY⟩))
        all_goals (
          have Hfin := Lib.hid hY.2.2.2.out.2.2.2
          clear hY HU K3
          go_wp2_with fail
          go_ret
          exact ⟨congrArg (fun v => Ending.returned (.bool v)) Hv.out, Hfin.out⟩)
end Go.Proofs.YtmmeejofepmgaaaGreatDoor
