/- RnMath, RnCut, RnTo, RnRef, RtOf, QRef, RMath, RRef, RtTo: joined. -/
import Derived.Test.YtafgooiakmmfkaaDoorK2
import Derived.Test.YtafgooiakmmfkaaDoorK1
import Derived.Deep.Cut
/- Rounding, as plain mathematics: the size that bits are worth, which bits lie below a size, what a number is rounded to; by the program's way (rndO) and by sizes (rndS). -/
namespace Go.Proofs.YtafgooiakmmfkaaDoor

/-- Where the least unit lies: a number that nothing reckons with. -/
noncomputable def kb : Nat := Classical.choose (⟨2147482574, rfl⟩ : ∃ k : Nat, k = 2147482574)
theorem kb_eq : kb = 2147482574 := Classical.choose_spec (⟨2147482574, rfl⟩ : ∃ k : Nat, k = 2147482574)
/-- The size of bits without a sign; infinity's is 2^1024. -/
noncomputable def vX (X : Nat) : Nat := fm X * 2 ^ (fE X + kb)

theorem vX_parts {L U X : Nat} (hX : X = L * 4503599627370496 + U) (hU : U ≤ 9007199254740992) (h2 : 0 < L → 4503599627370496 ≤ U) (hL : L ≤ 2045) : vX X = U * 2 ^ (L + kb) := by
  unfold vX
  rcases Nat.lt_or_ge U 4503599627370496 with h | h
  · have hL0 : L = 0 := by omega
    subst hL0
    have e1 : fex X = 0 := by unfold fex; omega
    have e2 : ffr X = U := by unfold ffr; omega
    rw [fm, if_pos e1, e2, fE, e1]
  · rcases Nat.lt_or_ge U 9007199254740992 with h' | h'
    · have e1 : fex X = L + 1 := by unfold fex; omega
      have e2 : ffr X = U - 4503599627370496 := by unfold ffr; omega
      rw [fm, if_neg (by omega), e2, fE, e1, Nat.add_sub_cancel, Nat.sub_add_cancel h]
    · have e0 : U = 9007199254740992 := by omega
      subst e0
      have e1 : fex X = L + 2 := by unfold fex; omega
      have e2 : ffr X = 0 := by unfold ffr; omega
      rw [fm, if_neg (by omega), e2, fE, e1, show L + 2 - 1 + kb = (L + kb) + 1 by omega, Nat.pow_succ]
      generalize 2 ^ (L + kb) = D
      omega
/-- The bits' own parts. -/
theorem x_parts {X : Nat} (h : X < 9218868437227405312) : X = fE X * 4503599627370496 + fm X ∧ fm X < 9007199254740992 ∧ (0 < fE X → 4503599627370496 ≤ fm X) ∧ fE X ≤ 2045 := by
  obtain ⟨p1, p2, p3, p4⟩ := f_parts X
  have hf : Fnt X := by unfold Fnt fex; omega
  exact ⟨by omega, p2, p3, p4 hf⟩
theorem vX_next {X : Nat} (h : X < 9218868437227405312) : vX (X + 1) = vX X + 2 ^ (fE X + kb) := by
  obtain ⟨p1, p2, p3, p4⟩ := x_parts h
  have h1 := vX_parts (L := fE X) (U := fm X + 1) (X := X + 1) (by omega) (by omega) (by omega) p4
  rw [h1, Nat.add_mul, Nat.one_mul]; rfl
theorem vX_lt {X : Nat} (h : X < 9218868437227405312) : vX X < vX (X + 1) := by
  rw [vX_next h]; exact Nat.lt_add_of_pos_right (Nat.two_pow_pos _)
theorem vX_mono {X d : Nat} (h : X + d ≤ 9218868437227405312) : vX X ≤ vX (X + d) := by
  induction d with
  | zero => exact Nat.le_refl _
  | succ d ih =>
    have h1 := ih (by omega)
    have h2 := vX_lt (X := X + d) (by omega)
    rw [← Nat.add_assoc]
    omega
theorem vX_le {X Y : Nat} (h : X ≤ Y) (hY : Y ≤ 9218868437227405312) : vX X ≤ vX Y := by
  have := vX_mono (X := X) (d := Y - X) (by omega)
  rwa [Nat.add_sub_cancel' h] at this

/-- The greatest bits that are worth at most S. -/
def IsLow (S X : Nat) : Prop := X ≤ 9218868437227405312 ∧ vX X ≤ S ∧ (X < 9218868437227405312 → S < vX (X + 1))
theorem IsLow.not_lt {S X Y : Nat} (hX : IsLow S X) (hY : IsLow S Y) : ¬ X < Y := by
  intro h
  have h1 := hX.2.2 (by have := hY.1; omega)
  have h2 := vX_le (X := X + 1) (Y := Y) h hY.1
  have h3 := hY.2.1
  omega
theorem IsLow.uniq {S X Y : Nat} (hX : IsLow S X) (hY : IsLow S Y) : X = Y := by
  have h1 := hX.not_lt hY
  have h2 := hY.not_lt hX
  omega
theorem IsLow.mono {S T X Y : Nat} (hX : IsLow S X) (hY : IsLow T Y) (h : S ≤ T) : X ≤ Y := by
  rcases Nat.lt_or_ge Y X with h' | h'
  · have h1 := hY.2.2 (by have := hX.1; omega)
    have h2 := vX_le (X := Y + 1) (Y := X) h' hX.1
    have h3 := hX.2.1
    omega
  · exact h'

/-- Does a size go up to the next unit? -/
def awy (g : Bool) (dir : Int) (odd half below : Bool) : Bool :=
  if dir = 0 then half && (below || odd) else if dir = 2 then !g && (half || below) else if dir = 3 then g && (half || below) else false
theorem awy_all {g : Bool} {dir : Int} {odd half below : Bool} (h : awy g dir odd half below = true) : awy g dir true true true = true := by
  unfold awy at *
  split
  · rfl
  · rename_i h0
    rw [if_neg h0] at h
    split
    · rename_i h1; rw [if_pos h1] at h; revert h; cases g <;> simp
    · rename_i h1
      rw [if_neg h1] at h
      split
      · rename_i h2; rw [if_pos h2] at h; revert h; cases g <;> simp
      · rename_i h2; rw [if_neg h2] at h; exact h
theorem awy_exact (g : Bool) (dir : Int) (odd : Bool) : awy g dir odd false false = false := by
  unfold awy
  cases g <;> simp

def sgn (g : Bool) (X : Nat) : Nat := (if g then 9223372036854775808 else 0) + X
def overM (g : Bool) (dir : Int) : Nat := if awy g dir true true true then 9218868437227405312 else 9218868437227405311
def overO (g : Bool) (dir : Int) : Nat × Nat := (sgn g (overM g dir), 5)
def upX (g : Bool) (dir : Int) (X : Nat) (half below : Bool) : Nat := X + (awy g dir (decide (X % 2 = 1)) half below).toNat
def fl (half below small : Bool) : Nat := if half || below then (if small then 3 else 1) else 0
/-- What comes of the bits below it. -/
def rfin (g : Bool) (dir : Int) (X : Nat) (half below small : Bool) : Nat × Nat :=
  if upX g dir X half below = 9218868437227405312 then overO g dir else (sgn g (upX g dir X half below), fl half below small)

def rtop (V : Nat) (e : Int) : Int := (blen V : Int) - 1 + e
def ru (V : Nat) (e : Int) : Int := max (rtop V e - 52) (-1074)
def rU (V : Nat) (e u : Int) : Nat := if u ≤ e then V * 2 ^ (e - u).toNat else V / 2 ^ (u - e - 1).toNat / 2
def rH (V : Nat) (e u : Int) : Bool := if u ≤ e then false else decide (V / 2 ^ (u - e - 1).toNat % 2 = 1)
def rB (V : Nat) (e u : Int) : Bool := if u ≤ e then false else decide (V % 2 ^ (u - e - 1).toNat ≠ 0)
def rX (V : Nat) (e : Int) : Nat := (ru V e + 1074).toNat * 4503599627370496 + rU V e (ru V e)
def lowX (V : Nat) (e : Int) : Nat := if 1023 < rtop V e then 9218868437227405312 else rX V e
/-- By the program's way: of a number that isn't 0. -/
def rndO (g : Bool) (V : Nat) (e : Int) (more : Bool) (dir : Int) : Nat × Nat :=
  if 1023 < rtop V e then overO g dir else
  rfin g dir (rX V e) (rH V e (ru V e)) (rB V e (ru V e) || more) (decide (rtop V e < -1022))
/-- By sizes. -/
noncomputable def hS (S X : Nat) : Bool := decide (vX X + vX (X + 1) ≤ 2 * S)
noncomputable def bS (S X : Nat) : Bool := decide (S ≠ vX X ∧ 2 * S ≠ vX X + vX (X + 1))
noncomputable def rndS (g : Bool) (S : Nat) (more : Bool) (dir : Int) (X : Nat) : Nat × Nat :=
  if X = 9218868437227405312 then overO g dir else rfin g dir X (hS S X) (bS S X || more) (decide (S < vX 4503599627370496))

theorem cut_facts {P Q U h b V : Nat} (hP : 0 < P) (hh : h < 2) (hb : b < Q) (hV : V = (2 * U + h) * Q + b) :
    U * (2 * Q * P) ≤ V * P ∧ V * P < (U + 1) * (2 * Q * P) ∧ (U * (2 * Q * P) + (U + 1) * (2 * Q * P) ≤ 2 * (V * P) ↔ h = 1) ∧
    (V * P = U * (2 * Q * P) ↔ h = 0 ∧ b = 0) ∧ (2 * (V * P) = U * (2 * Q * P) + (U + 1) * (2 * Q * P) ↔ h = 1 ∧ b = 0) := by
  have e1 : U * (2 * Q * P) = (U * Q * 2) * P := by rw [← Nat.mul_assoc, ← Nat.mul_assoc, Nat.mul_right_comm U 2 Q]
  have e2 : (U + 1) * (2 * Q * P) = (U * Q * 2 + 2 * Q) * P := by rw [Nat.add_mul, e1, Nat.one_mul, ← Nat.add_mul]
  have e3 : V = U * Q * 2 + h * Q + b := by rw [hV, Nat.add_mul, Nat.mul_comm 2 U, Nat.mul_right_comm U 2 Q]
  have e4 : 2 * (V * P) = (2 * V) * P := (Nat.mul_assoc _ _ _).symm
  rw [e1, e2, e4, ← Nat.add_mul]
  have c1 : ∀ x y : Nat, x * P ≤ y * P ↔ x ≤ y := fun x y => Nat.mul_le_mul_right_iff hP
  have c2 : ∀ x y : Nat, x * P < y * P ↔ x < y := fun x y => Nat.mul_lt_mul_right hP
  have c3 : ∀ x y : Nat, x * P = y * P ↔ x = y := fun x y => ⟨fun h => Nat.eq_of_mul_eq_mul_right hP h, fun h => by rw [h]⟩
  rw [c1, c2, c1, c3, c3]
  generalize U * Q = A at *
  have hh' : h = 0 ∨ h = 1 := by omega
  rcases hh' with rfl | rfl
  · rw [Nat.zero_mul] at e3
    omega
  · rw [Nat.one_mul] at e3
    omega

theorem sh_eq {e : Int} (h1 : -1073741824 ≤ e) (h2 : e ≤ 1073741824) : (sh e : Int) = e + 2147483648 := by rw [sh_held, held_id h1 h2]

/-- The program's way is that of sizes. -/
theorem rnd_low {V : Nat} {e : Int} (hV : V ≠ 0) (h1 : -1073741824 ≤ e) (h2 : e ≤ 1073741824) (ht : rtop V e ≤ 1023) :
    rX V e < 9218868437227405312 ∧ vX (rX V e) ≤ sz V e ∧ sz V e < vX (rX V e + 1) ∧ rH V e (ru V e) = hS (sz V e) (rX V e) ∧ rB V e (ru V e) = bS (sz V e) (rX V e) := by
  have hB := blen_pos hV
  have hlt := lt_blen V
  have hge := blen_le hV
  obtain ⟨u, hu⟩ : ∃ u, ru V e = u := ⟨_, rfl⟩
  obtain ⟨t, htt⟩ : ∃ t, rtop V e = t := ⟨_, rfl⟩
  have hu2 := hu
  unfold ru at hu2
  rw [htt] at hu2 ht
  unfold rtop at htt
  obtain ⟨L, hL⟩ : ∃ L : Nat, (u + 1074).toNat = L := ⟨_, rfl⟩
  have hL1 : u = (L : Int) - 1074 := by omega
  have hL2 : L ≤ 2045 := by omega
  have hsh := sh_eq h1 h2
  have hkb := kb_eq
  unfold rX
  rw [hu, hL]
  unfold sz
  by_cases hue : u ≤ e
  · obtain ⟨k, hk⟩ : ∃ k, (e - u).toNat = k := ⟨_, rfl⟩
    have hU : rU V e u = V * 2 ^ k := by rw [rU, if_pos hue, hk]
    have hbl := blen_shl (n := k) hV
    have hUle : V * 2 ^ k < 9007199254740992 := (blen_le_iff (k := 53)).1 (by rw [hbl]; omega)
    have hUge : 0 < L → 4503599627370496 ≤ V * 2 ^ k := fun h => by
      have h5 : blen (V * 2 ^ k) = 53 := by rw [hbl]; omega
      have h6 := blen_le (x := V * 2 ^ k) (fun h0 => by rw [h0] at h5; cases h5)
      rw [h5] at h6
      exact h6
    have hS : V * 2 ^ sh e = V * 2 ^ k * 2 ^ (L + kb) := by rw [Nat.mul_assoc, ← Nat.pow_add]; congr 2; omega
    rw [hU, hS]
    have v1 := vX_parts (L := L) (U := V * 2 ^ k) rfl (by omega) hUge hL2
    have v2 := vX_parts (L := L) (U := V * 2 ^ k + 1) (X := L * 4503599627370496 + V * 2 ^ k + 1) (by omega) (by omega) (fun h => by have := hUge h; omega) hL2
    have hp := Nat.two_pow_pos (L + kb)
    rw [hS] at *
    unfold Go.Proofs.YtafgooiakmmfkaaDoor.hS Go.Proofs.YtafgooiakmmfkaaDoor.bS
    rw [v1, v2, rH, if_pos hue, rB, if_pos hue]
    generalize V * 2 ^ k = U at *
    generalize 2 ^ (L + kb) = D at *
    rw [Nat.add_mul, Nat.one_mul]
    generalize U * D = Z at *
    exact ⟨by omega, Nat.le_refl _, by omega, (decide_eq_false (by omega)).symm, (decide_eq_false (by omega)).symm⟩
  · obtain ⟨k, hk⟩ : ∃ k, (u - e - 1).toNat = k := ⟨_, rfl⟩
    have hU : rU V e u = V / 2 ^ k / 2 := by rw [rU, if_neg hue, hk]
    have hdiv : V / 2 ^ k / 2 = V / 2 ^ (k + 1) := by rw [Nat.div_div_eq_div_mul, Nat.pow_succ]
    have hUle : V / 2 ^ (k + 1) < 9007199254740992 := by
      rw [Nat.div_lt_iff_lt_mul (Nat.two_pow_pos _), show (9007199254740992 : Nat) = 2 ^ 53 from by decide, ← Nat.pow_add]
      exact blen_le_iff.1 (by omega)
    have hUge : 0 < L → 4503599627370496 ≤ V / 2 ^ (k + 1) := fun h => by
      rw [Nat.le_div_iff_mul_le (Nat.two_pow_pos _), show (4503599627370496 : Nat) = 2 ^ 52 from by decide, ← Nat.pow_add, show 52 + (k + 1) = blen V - 1 by omega]
      exact hge
    rw [← hdiv] at hUle hUge
    have hD : 2 ^ (L + kb) = 2 * 2 ^ k * 2 ^ sh e := by
      rw [show L + kb = (k + 1) + sh e by omega, Nat.pow_add, Nat.pow_succ, Nat.mul_comm (2 ^ k) 2]
    rw [hU]
    have v1 := vX_parts (L := L) (U := V / 2 ^ k / 2) rfl (by omega) hUge hL2
    have v2 := vX_parts (L := L) (U := V / 2 ^ k / 2 + 1) (X := L * 4503599627370496 + V / 2 ^ k / 2 + 1) (by omega) (by omega) (fun h => by have := hUge h; omega) hL2
    have hb := Nat.mod_lt V (Nat.two_pow_pos k)
    have hVV : V = (2 * (V / 2 ^ k / 2) + V / 2 ^ k % 2) * 2 ^ k + V % 2 ^ k := by
      rw [Nat.div_add_mod]
      have := Nat.div_add_mod V (2 ^ k)
      rw [Nat.mul_comm] at this
      exact this.symm
    obtain ⟨f1, f2, f3, f4, f5⟩ := cut_facts (P := 2 ^ sh e) (Q := 2 ^ k) (U := V / 2 ^ k / 2) (h := V / 2 ^ k % 2) (b := V % 2 ^ k) (V := V) (Nat.two_pow_pos _) (Nat.mod_lt _ (by decide)) hb hVV
    rw [← hD] at f1 f2 f3 f4 f5
    unfold Go.Proofs.YtafgooiakmmfkaaDoor.hS Go.Proofs.YtafgooiakmmfkaaDoor.bS
    rw [v1, v2, rH, if_neg hue, rB, if_neg hue, hk]
    refine ⟨by omega, f1, f2, ?_, ?_⟩
    · rw [decide_eq_decide]; exact f3.symm
    · rw [decide_eq_decide]
      constructor
      · intro h
        exact ⟨fun h' => h (f4.1 h').2, fun h' => h (f5.1 h').2⟩
      · rintro ⟨ha, hb'⟩ h0
        have h3 := Nat.mod_lt (V / 2 ^ k) (show 0 < 2 by decide)
        have h4 : V / 2 ^ k % 2 = 0 ∨ V / 2 ^ k % 2 = 1 := by omega
        rcases h4 with h4 | h4
        · exact ha (f4.2 ⟨h4, h0⟩)
        · exact hb' (f5.2 ⟨h4, h0⟩)

theorem vX_norm : vX 4503599627370496 = 2 ^ (52 + kb) := by
  have := vX_parts (L := 0) (U := 4503599627370496) (X := 4503599627370496) (by omega) (by omega) (by omega) (by omega)
  rw [this, Nat.zero_add, Nat.pow_add]
theorem vX_inf : vX 9218868437227405312 = 2 ^ (2098 + kb) := by
  have := vX_parts (L := 2045) (U := 9007199254740992) (X := 9218868437227405312) (by omega) (by omega) (by omega) (by omega)
  rw [this, show 2098 + kb = 53 + (2045 + kb) by omega, Nat.pow_add _ 53]
theorem blen_szR {V : Nat} {e : Int} (hV : V ≠ 0) (h1 : -1073741824 ≤ e) (h2 : e ≤ 1073741824) : (blen (sz V e) : Int) = rtop V e + 1 + 2147483648 := by
  rw [blen_sz e hV, topD, held_id h1 h2]; rfl
theorem small_iff {V : Nat} {e : Int} (hV : V ≠ 0) (h1 : -1073741824 ≤ e) (h2 : e ≤ 1073741824) : rtop V e < -1022 ↔ sz V e < vX 4503599627370496 := by
  rw [vX_norm, ← blen_le_iff]
  have := blen_szR hV h1 h2
  have := kb_eq
  omega
theorem great_iff {V : Nat} {e : Int} (hV : V ≠ 0) (h1 : -1073741824 ≤ e) (h2 : e ≤ 1073741824) : 1023 < rtop V e ↔ vX 9218868437227405312 ≤ sz V e := by
  rw [vX_inf, ← Nat.not_lt, ← blen_le_iff]
  have := blen_szR hV h1 h2
  have := kb_eq
  omega

theorem low_is {V : Nat} {e : Int} (hV : V ≠ 0) (h1 : -1073741824 ≤ e) (h2 : e ≤ 1073741824) : IsLow (sz V e) (lowX V e) := by
  unfold lowX
  by_cases ht : 1023 < rtop V e
  · rw [if_pos ht]
    exact ⟨Nat.le_refl _, (great_iff hV h1 h2).1 ht, fun h => absurd h (by omega)⟩
  · rw [if_neg ht]
    obtain ⟨a, b, c, _, _⟩ := rnd_low hV h1 h2 (by omega)
    exact ⟨by omega, b, fun _ => c⟩
theorem rndO_S {V : Nat} {e : Int} (g more : Bool) (dir : Int) {X : Nat} (hV : V ≠ 0) (h1 : -1073741824 ≤ e) (h2 : e ≤ 1073741824) (hX : IsLow (sz V e) X) : rndO g V e more dir = rndS g (sz V e) more dir X := by
  obtain rfl := hX.uniq (low_is hV h1 h2)
  unfold rndO rndS lowX
  by_cases ht : 1023 < rtop V e
  · rw [if_pos ht, if_pos ht, if_pos rfl]
  · obtain ⟨a, b, c, d, f⟩ := rnd_low hV h1 h2 (by omega)
    rw [if_neg ht, if_neg ht, if_neg (by omega), d, f]
    congr 1
    rw [decide_eq_decide]
    exact small_iff hV h1 h2

end Go.Proofs.YtafgooiakmmfkaaDoor
/- The walks of round.known, away, signed, raised, Over, Under, up, cut, count. -/
namespace Go.Proofs.YtafgooiakmmfkaaDoor
open Go.RowKit

theorem known_l (v : Bool) (dir : Int) (w : World) (hv : Hid (decide (0 ≤ dir ∧ dir ≤ 3) = v)) :
    Calls Tryd.prog 109 #[.int .i64 dir] w fun e w' => e = .returned (.bool v) ∧ w = w' := by
  have hv' := hv.out
  clear hv
  by_cases h : 0 ≤ dir ∧ dir ≤ 3
  · obtain rfl : v = true := by rw [← hv']; exact decide_eq_true h
    have h4 : dir = 0 ∨ dir = 1 ∨ dir = 2 ∨ dir = 3 := by omega
    clear hv' h
    rcases h4 with rfl | rfl | rfl | rfl
    all_goals (
      go_enter Tryd.func109, Tryd.ntmps109
      go_wp2
      go_ret
      exact ⟨rfl, rfl⟩)
  · obtain rfl : v = false := by rw [← hv']; exact decide_eq_false h
    have c0 : (dir == 0) = false := beq_no (by omega)
    have c1 : (dir == 1) = false := beq_no (by omega)
    have c2 : (dir == 2) = false := beq_no (by omega)
    have c3 : (dir == 3) = false := beq_no (by omega)
    clear hv' h
    go_enter Tryd.func109, Tryd.ntmps109
    go_wp2
    go_ret
    exact ⟨rfl, rfl⟩

theorem away_l (v : Bool) (g : Bool) (dir : Int) (odd half below : Bool) (w : World) (hv : Hid (awy g dir odd half below = v)) :
    Calls Tryd.prog 111 #[.bool g, .int .i64 dir, .bool odd, .bool half, .bool below] w fun e w' => e = .returned (.bool v) ∧ w = w' := by
  have hv' := hv.out
  clear hv
  unfold awy at hv'
  by_cases h0 : dir = 0
  · subst h0
    rw [if_pos rfl] at hv'
    cases half <;> cases below <;> cases odd <;> subst hv' <;> (
      go_enter Tryd.func111, Tryd.ntmps111
      go_wp2
      go_ret
      exact ⟨rfl, rfl⟩)
  · rw [if_neg h0] at hv'
    have c0 : (dir == 0) = false := beq_no h0
    by_cases h2 : dir = 2
    · subst h2
      rw [if_pos rfl] at hv'
      cases g <;> cases half <;> cases below <;> subst hv' <;> (
        go_enter Tryd.func111, Tryd.ntmps111
        go_wp2
        go_ret
        exact ⟨rfl, rfl⟩)
    · rw [if_neg h2] at hv'
      have c2 : (dir == 2) = false := beq_no h2
      by_cases h3 : dir = 3
      · subst h3
        rw [if_pos rfl] at hv'
        cases g <;> cases half <;> cases below <;> subst hv' <;> (
          go_enter Tryd.func111, Tryd.ntmps111
          go_wp2
          go_ret
          exact ⟨rfl, rfl⟩)
      · rw [if_neg h3] at hv'
        subst hv'
        have c3 : (dir == 3) = false := beq_no h3
        clear h0 h2 h3
        go_enter Tryd.func111, Tryd.ntmps111
        go_wp2
        go_ret
        exact ⟨rfl, rfl⟩

theorem or_sign' (X : Nat) (hX : X < 9223372036854775808) : bits BinOp.or IntKind.u64 (X : Int) 9223372036854775808 = ((9223372036854775808 + X : Nat) : Int) := by
  have h := bits_or_u64_nat X 9223372036854775808 (by omega) (by decide)
  have h2 : X ||| 9223372036854775808 = 9223372036854775808 + X := by
    rw [Nat.or_comm]; exact (Nat.shiftLeft_add_eq_or_of_lt (i := 63) (b := X) (show X < 2 ^ 63 from hX) 1).symm
  rw [h2] at h
  exact h




/-- Noughts made, and limbs behind them. -/
theorem app_zeros64 (w : World) (A : Option Addr) (n c q : Nat) (ds : List Nat) (hA : Row .u64 w A n c ds) (hn : n ≤ 4294967296) (hq : q ≤ 1000000) :
    ∃ A' c' w', (Builtin.append_ #[22, 22] 22 #[.slice (some ⟨w.heap.size, 0, none⟩) q q, .slice A n c]).run Tryd.prog (w.alloc (.cells (madeCells #[.int .u64 0] q) 104)) = .ok (.slice A' (q + n) c') w' ∧
      Row .u64 w' A' (q + n) c' (List.replicate q 0 ++ ds) ∧ Below w.heap.size w w' := by
  have hb : Below w.heap.size w (w.alloc (.cells (madeCells #[.int .u64 0] q) 104)) := (Below.refl _ _).alloc (Nat.le_refl _) _
  have hown : Own .u64 104 (w.alloc (.cells (madeCells #[.int .u64 0] q) 104)) w.heap.size (.slice (some ⟨w.heap.size, 0, none⟩) q q) (List.replicate q 0) := by
    refine ⟨by simp, Or.inr ⟨w.heap.size, q, madeCells #[.int .u64 0] q, by simp, Nat.le_refl _, heap_alloc_new w _, by simp, by unfold maxLen; omega, by rw [size_madeCells]; omega, ?_⟩⟩
    have hr := World.rowIs_made w (.int .u64 0) q 104
    apply List.ext_getElem?
    intro k
    by_cases hk : k < q
    · have hc := hr.cell hk
      rw [cell_of_row _ w.heap.size k (madeCells #[.int .u64 0] q) 104 (0, 0) (heap_alloc_new w _)] at hc
      rw [List.getElem?_take_of_lt (by simpa using hk), Array.getElem?_toList, hc, List.getElem?_map, List.getElem?_replicate, if_pos hk]
      rfl
    · rw [List.getElem?_eq_none (by rw [List.length_take, List.length_replicate]; omega), List.getElem?_eq_none (by simp; omega)]
  obtain ⟨v', w', hrun, ho, hb'⟩ := run_app (P := Tryd.prog) (T := 22) (ty := 22) Tryd.underlying22 info64 hown (hA.below hb) hb.size (by simp; omega) (by simp; omega)
  obtain ⟨A1, c1, rfl, hr⟩ := ho.row
  have el : (List.replicate q 0 ++ ds).length = q + n := by rw [List.length_append, List.length_replicate, hA.len]
  rw [el] at hrun hr
  exact ⟨A1, c1, w', hrun, hr, hb.trans hb'⟩

set_option maxRecDepth 20000 in
/-- up, by fewer bits than a limb has. -/
theorem up_l (A : Option Addr) (n c : Nat) (xs : List Nat) (N : Nat) (w : World) (hA : Lim w A n c xs) (hn : n ≤ 4294967296) (hT : Tab w) (hN : N < 64) :
    Calls Tryd.prog 114 #[.slice A n c, .int .i64 (N : Int)] w (Tells w (val xs * 2 ^ N) (n + 1)) := by
  obtain ⟨A1, c1, w1, hrun, hr, hb1⟩ := app_zeros64 w A n c 1 xs hA.toRow hn (by decide)
  rw [show List.replicate 1 0 ++ xs = 0 :: xs from rfl, Nat.add_comm 1 n] at hr
  rw [Nat.add_comm 1 n] at hrun
  have hl1 : Lim w1 A1 (n + 1) c1 (0 :: xs) := hr.toLim (Words.cons (by decide) hA.words)
  obtain ⟨M, hM⟩ : ∃ M, 64 - N = M := ⟨_, rfl⟩
  obtain ⟨bb, hbb⟩ : ∃ bb, decide (val (0 :: xs) % 2 ^ M ≠ 0) = bb := ⟨_, rfl⟩
  have H1 := shr_l M A1 (n + 1) c1 (0 :: xs) w1 hl1 (by omega) (hT.below hb1) (by omega) bb hbb
  have hV : val (0 :: xs) / 2 ^ M = val xs * 2 ^ N := by
    rw [val, Nat.zero_add, show (18446744073709551616 : Nat) = 2 ^ 64 from by decide, show 64 = M + N by omega, Nat.pow_add, Nat.mul_assoc, Nat.mul_div_cancel_left _ (Nat.two_pow_pos _), Nat.mul_comm]
  rw [hV] at H1
  have H1 := Lib.hid H1
  have HB1 := Lib.hid hb1
  have Hrun := Lib.hid hrun
  have hmk := run_make_row' (P := Tryd.prog) 22 104 (.int .u64 0) 8 Tryd.underlying22 info64 rfl .i64 .i64 1 (by omega) (by omega)
  rw [show ((1 : Nat) : Int) = 1 from rfl] at hmk
  have e1 : (N : Int) / 64 = 0 := by omega
  have e2 : (64 : Int) - (N : Int) = (M : Int) := by omega
  clear hA hrun hr hl1 hb1 hV hbb hT hM
  go_enter Tryd.func114, Tryd.ntmps114
  go_wp2_with (at_builtin; refine wpList_app (s := .tmp 13) (x := .tmp 14) (by rfl) rfl rfl rfl Hrun.out ?_)
  refine H1.out.mono ?_
  rintro e w2 ⟨A2, m2, c2, zs, rfl, hm2, hl2, hb2, hv2, hB2⟩
  have Hfin : Hid (Tells w (val xs * 2 ^ N) (n + 1) (.returned (.slice A2 m2 c2)) w2) := ⟨A2, m2, c2, zs, rfl, hm2, hl2, hb2, hv2, HB1.out.trans (hB2.mono HB1.out.size)⟩
  clear hl2 hb2 hv2 hB2 H1 HB1 hmk Hrun
  go_wp2
  go_ret
  exact Hfin.out
end Go.Proofs.YtafgooiakmmfkaaDoor
/- The walks of round.cut, count, laid. -/
namespace Go.Proofs.YtafgooiakmmfkaaDoor
open Go.RowKit

theorem quiet_one {P : Program} {f : FuncId} {args : Array Value} {w : World} {n : Nat} {v : Value}
    (h : Calls P f args (w.drewN n) fun e w' => e = .returned v ∧ w.drewN n = w') : Calls P f args (w.drewN n) fun e w'' => e = .returned v ∧ ∃ m, w'' = w.drewN m :=
  h.mono fun _ _ ⟨he, hm⟩ => ⟨he, n, hm.symm⟩
/-- A number and two values. -/
def TellsC (w : World) (V L : Nat) (p q : Bool) (e : Ending) (w' : World) : Prop :=
  ∃ A m c zs, e = .returned (.tuple #[.slice A m c, .bool p, .bool q]) ∧ m ≤ L ∧ Lim w' A m c zs ∧ Bare zs ∧ val zs = V ∧ Below w.heap.size w w'

theorem rcut_l (U : Nat) (H B : Bool) (g : Bool) (A : Option Addr) (n c : Nat) (xs : List Nat) (e0 u : Int) (w : World) (hA : Lim w A n c xs) (hn : n ≤ 4294967295) (hT : Tab w)
    (h1 : -2147483648 ≤ e0) (h2 : e0 ≤ 2147483648) (h3 : -2147483648 ≤ u) (h4 : u ≤ 2147483648) (h5 : e0 ≤ u + 63) (hU : Hid (rU (val xs) e0 u = U)) (hH : Hid (rH (val xs) e0 u = H)) (hB : Hid (rB (val xs) e0 u = B)) :
    Calls Tryd.prog 110 #[.agg #[.bool g, .slice A n c, .int .i64 e0], .int .i64 u] w (TellsC w U (n + 1) H B) := by
  have a3 := below1 w (.cells #[.bool g, .slice A n c, .int .i64 e0] 36)
  have HS := Lib.hid a3
  have hUo := hU.out
  have hHo := hH.out
  have hBo := hB.out
  unfold rU at hUo
  unfold rH at hHo
  unfold rB at hBo
  clear hU hH hB
  by_cases hue : u ≤ e0
  · rw [if_pos hue] at hUo hHo hBo
    subst hHo hBo
    obtain ⟨N, hN⟩ : ∃ N : Nat, (e0 - u).toNat = N := ⟨_, rfl⟩
    rw [hN] at hUo
    have eN : e0 - u = (N : Int) := by omega
    have H1 := up_l A n c xs N _ (hA.below a3) (by omega) (hT.below a3) (by omega)
    rw [hUo] at H1
    have H1 := Lib.hid H1
    have b1 : decide (u ≤ e0) = true := decide_eq_true hue
    clear hA hT a3 hUo hue hN h5
    go_enter Tryd.func110, Tryd.ntmps110
    go_wp2_with fail
    refine H1.out.mono ?_
    rintro e w2 ⟨A2, m2, c2, zs, rfl, hm2, hl2, hb2, hv2, hB2⟩
    have Hfin : Hid (TellsC w U (n + 1) false false (.returned (.tuple #[.slice A2 m2 c2, .bool false, .bool false])) w2) := ⟨A2, m2, c2, zs, rfl, hm2, hl2, hb2, hv2, HS.out.trans (hB2.mono HS.out.size)⟩
    clear hl2 hb2 hv2 hB2 H1 HS
    go_wp2
    go_ret3
    exact Hfin.out
  · rw [if_neg hue] at hUo hHo hBo
    obtain ⟨N, hN⟩ : ∃ N : Nat, (u - e0 - 1).toNat = N := ⟨_, rfl⟩
    rw [hN] at hUo hHo hBo
    have eN : u - e0 - 1 = (N : Int) := by omega
    have H1 := Lib.hid (shr_l N A n c xs _ (hA.below a3) (by omega) (hT.below a3) (by omega) B hBo)
    have HT := Lib.hid (hT.below a3)
    have b1 : decide (u ≤ e0) = false := decide_eq_false hue
    generalize val xs / 2 ^ N = Q at hUo hHo H1
    have HU := Lib.hid hUo
    have HH := Lib.hid hHo
    clear hA hT a3 hBo hUo hHo hue hN h5
    go_enter Tryd.func110, Tryd.ntmps110
    go_wp2_with fail
    refine H1.out.mono ?_
    rintro e w2 ⟨A2, m2, c2, zs, rfl, hm2, hl2, hb2, hv2, hB2⟩
    obtain ⟨bb, hbb⟩ : ∃ bb, decide (val zs % 2 ^ 1 ≠ 0) = bb := ⟨_, rfl⟩
    have H2 := shr_l 1 A2 m2 c2 zs w2 hl2 (by omega) (HT.out.below hB2) (by omega) bb hbb
    rw [hv2, Nat.pow_one, HU.out] at H2
    rw [show ((1 : Nat) : Int) = 1 from rfl] at H2
    have H2 := Lib.hid H2
    have HL2 := Lib.hid hl2
    have HS2 := Lib.hid (HS.out.trans (hB2.mono HS.out.size))
    have HHz : Hid (decide (val zs % 2 = 1) = H) := by rw [hv2]; exact HH.out
    clear hl2 hb2 hv2 hB2 H1 HS hbb HT HU HH
    go_wp2_with fail
    refine H2.out.mono ?_
    rintro e w3 ⟨A3, m3, c3, ys, rfl, hm3, hl3, hb3, hv3, hB3⟩
    have H3 := odd_any A2 m2 c2 zs w3 (HL2.out.below hB3) (by omega)
    rw [HHz.out] at H3
    have H3 := Lib.hid H3
    have Hfin : Hid (TellsC w U (n + 1) H B (.returned (.tuple #[.slice A3 m3 c3, .bool H, .bool B])) w3) := ⟨A3, m3, c3, ys, rfl, by omega, hl3, hb3, hv3, HS2.out.trans (hB3.mono HS2.out.size)⟩
    clear hl3 hb3 hv3 hB3 H2 HS2 HHz
    go_wp2_with fail
    refine H3.out.mono ?_
    rintro e w' ⟨rfl, rfl⟩
    go_wp2
    go_ret3
    exact Hfin.out

theorem count_l (v H B more : Bool) (U V2 : Nat) (g : Bool) (A : Option Addr) (n c : Nat) (xs : List Nat) (e0 u dir : Int) (w : World) (hA : Lim w A n c xs) (hn : n ≤ 4294967295) (hT : Tab w)
    (h1 : -2147483648 ≤ e0) (h2 : e0 ≤ 2147483648) (h3 : -2147483648 ≤ u) (h4 : u ≤ 2147483648) (h5 : e0 ≤ u + 63) (hU : Hid (rU (val xs) e0 u = U)) (hH : Hid (rH (val xs) e0 u = H)) (hB : Hid (rB (val xs) e0 u = B))
    (hv : Hid (awy g dir (decide (U % 2 = 1)) H (B || more) = v)) (hV2 : Hid (U + v.toNat = V2)) :
    Calls Tryd.prog 99 #[.agg #[.bool g, .slice A n c, .int .i64 e0], .bool more, .int .i64 dir, .int .i64 u] w (Tells2 w V2 (n + 3) (.bool (H || (B || more)))) := by
  have a3 := below1 w (.cells #[.bool g, .slice A n c, .int .i64 e0] 36)
  have HS := Lib.hid a3
  have H1 := Lib.hid (rcut_l U H B g A n c xs e0 u _ (hA.below a3) hn (hT.below a3) h1 h2 h3 h4 h5 hU hH hB)
  have Hbd := Lib.hid (Bd.new w 36 g A n c e0)
  clear hA hT a3 h1 h2 h3 h4 h5 hU hH hB
  obtain ⟨b, hb⟩ : ∃ b, (B || more) = b := ⟨_, rfl⟩
  rw [hb] at hv ⊢
  have hbm : (B = true ∧ b = true) ∨ (B = false ∧ more = b) := by cases B <;> simp_all
  clear hb
  obtain ⟨od, hod⟩ : ∃ od, decide (U % 2 = 1) = od := ⟨_, rfl⟩
  rw [hod] at hv
  have Hod := Lib.hid hod
  clear hod
  have key : ∀ (B2 : Bool), (B2 = B) → (B2 = true ∧ b = true) ∨ (B2 = false ∧ more = b) → Calls Tryd.prog 99 #[.agg #[.bool g, .slice A n c, .int .i64 e0], .bool more, .int .i64 dir, .int .i64 u] w (Tells2 w V2 (n + 3) (.bool (H || b))) := by
    intro B2 hB2 hbm2
    subst hB2
    clear hbm
    rcases hbm2 with ⟨rfl, rfl⟩ | ⟨rfl, rfl⟩
    all_goals (
      go_enter Tryd.func99, Tryd.ntmps99
      go_wp2_with fail
      refine H1.out.mono ?_
      rintro e w2 ⟨A2, m2, c2, zs, rfl, hm2, hl2, hb2, hv2, hB2⟩
      have H3 := fun q => odd_any A2 m2 c2 zs (w2.drewN q) (hl2.drewN q) (by omega)
      rw [hv2, Hod.out] at H3
      have H3 := Lib.hid H3
      have HL2 := Lib.hid hl2
      have Hb2 := Lib.hid hb2
      have Hv2 := Lib.hid hv2
      have HS2 := Lib.hid (HS.out.trans (hB2.mono HS.out.size))
      have kk := Hbd.out.below hB2
      have x0 := kk.c0
      clear hl2 hb2 hv2 hB2 H1 HS kk Hbd
      cases v with
      | false =>
        obtain rfl : U = V2 := hV2.out
        go_wp2
        go_quiet (first | (go_at_call 112; exact quiet_one (H3.out _)) | (go_at_call 111; exact quiet_one (away_l false g dir od H _ _ hv)))
        cases H <;> (
          go_wp2
          go_ret2
          exact ⟨A2, m2, c2, zs, rfl, by omega, HL2.out.drewN _, Hb2.out, Hv2.out, below_drewN HS2.out _⟩)
      | true =>
        have hV3 : U + 1 = V2 := hV2.out
        go_wp2
        go_quiet (first | (go_at_call 112; exact quiet_one (H3.out _)) | (go_at_call 111; exact quiet_one (away_l true g dir od H _ _ hv)))
        go_wp2_with fail
        refine (of_any 1 (by decide) _).mono ?_
        rintro e w3 ⟨A3, m3, c3, ys, rfl, hm3, hl3, hb3, hv3, hB3⟩
        have HS3 := Lib.hid ((below_drewN HS2.out _).trans (hB3.mono (below_drewN HS2.out _).size))
        have H4 := add_any A2 m2 c2 zs A3 m3 c3 ys w3 ((HL2.out.drewN _).below hB3) hl3 (by omega) (by omega)
        rw [Hv2.out, hv3, hV3] at H4
        have H4 := Lib.hid H4
        clear hl3 hb3 hv3 hB3 HS2 HL2 Hb2 Hv2 x0
        go_wp2_with fail
        refine H4.out.mono ?_
        rintro e w4 ⟨A4, m4, c4, us, rfl, hm4, hl4, hb4, hv4, hB4⟩
        have Hfin := Lib.hid (show Lim w4 A4 m4 c4 us ∧ Bare us ∧ val us = V2 ∧ Below w.heap.size w w4 from ⟨hl4, hb4, hv4, HS3.out.trans (hB4.mono HS3.out.size)⟩)
        clear hl4 hb4 hv4 hB4 HS3 H4
        cases H <;> (
          go_wp2
          go_ret2
          exact ⟨A4, m4, c4, us, rfl, by omega, Hfin.out⟩))
  exact key B rfl hbm
end Go.Proofs.YtafgooiakmmfkaaDoor
/- The document's numbers: planimeterref05.Sign, Top, Add. -/
namespace Go.Proofs.YtafgooiakmmfkaaDoor
open Go.RowKit

theorem dnil_iff {w : World} {A : Option Addr} {n c : Nat} {ds : List Nat} (h : Dig w A n c ds) (hb : D.Bare ds) : n = 0 ↔ D.val ds = 0 := by
  rw [← D.tl_zero_iff, hb, h.len]

theorem rsign_l (v : Int) (g : Bool) (A : Option Addr) (n c : Nat) (ds : List Nat) (e0 : Int) (w : World) (hA : Dig w A n c ds) (hb : D.Bare ds) (hv : Hid (sgD g (D.val ds) = v)) :
    Calls Tryd.prog 37 #[.agg #[.bool g, .slice A n c, .int .i64 e0]] w fun e w' => e = .returned (.int .i64 v) ∧ Below w.heap.size w w' := by
  have H1 := Lib.hid (below1 w (.cells #[.bool g, .slice A n c, .int .i64 e0] 31))
  have hv' := hv.out
  have hz := dnil_iff hA hb
  unfold sgD at hv'
  clear hv hA hb
  by_cases h0 : D.val ds = 0
  · rw [if_pos h0] at hv'
    subst hv'
    obtain rfl := hz.2 h0
    clear hz h0
    go_enter Tryd.func37, Tryd.ntmps37
    go_wp2
    go_ret
    exact ⟨rfl, H1.out⟩
  · rw [if_neg h0] at hv'
    have c1 : ((n : Int) == 0) = false := beq_no (by omega)
    clear hz h0
    cases g <;> subst hv' <;> (
      go_enter Tryd.func37, Tryd.ntmps37
      go_wp2
      go_ret
      exact ⟨rfl, H1.out⟩)

theorem rtop_l (v : Int) (g : Bool) (A : Option Addr) (n c : Nat) (ds : List Nat) (e0 : Int) (w : World) (hA : Dig w A n c ds) (hb : D.Bare ds) (hn : n ≤ 1000000) (h1 : -4294967296 ≤ e0) (h2 : e0 ≤ 4294967296) (hv : Hid (rtop (D.val ds) e0 = v)) :
    Calls Tryd.prog 38 #[.agg #[.bool g, .slice A n c, .int .i64 e0]] w fun e w' => e = .returned (.int .i64 v) ∧ Below w.heap.size w w' := by
  have a1 := below1 w (.cells #[.bool g, .slice A n c, .int .i64 e0] 31)
  have hlt := D.val_lt hA.words
  rw [hA.len, D.pw_two] at hlt
  have hbl : blen (D.val ds) ≤ 16 * n := blen_le_iff.2 hlt
  have H2 := fun q => rbits_any A n c ds ((w.alloc (.cells #[.bool g, .slice A n c, .int .i64 e0] 31)).drewN q) ((hA.below a1).drewN q) hb hn
  have hv' : (blen (D.val ds) : Int) - 1 + e0 = v := hv.out
  generalize blen (D.val ds) = B at *
  have H2 := Lib.hid H2
  have HS := Lib.hid a1
  have HV := Lib.hid hv'
  have hw : IntKind.i64.wrap ((B : Int) - 1 + e0) = (B : Int) - 1 + e0 := by rw [IntKind.wrap_i64]; omega
  clear hA hb a1 hlt hv hv'
  go_enter Tryd.func38, Tryd.ntmps38
  go_wp2
  go_quiet ((go_at_call 67; exact quiet_one (H2.out _)))
  go_wp2
  go_ret
  exact ⟨ret_int HV.out, below_drewN HS.out _⟩

/-- Two numbers of the document, in their boxes. -/
def HN (w0 : World) (b1 : Nat) (g : Bool) (A : Option Addr) (n c : Nat) (ds : List Nat) (e1 : Int) (b2 : Nat) (k : Bool) (B : Option Addr) (m d : Nat) (es : List Nat) (e2 : Int) (w : World) : Prop :=
  Bd w b1 31 g A n c e1 ∧ Bd w b2 31 k B m d e2 ∧ Dig w A n c ds ∧ Dig w B m d es ∧ Below w0.heap.size w0 w
abbrev CellsN (w0 : World) (b1 : Nat) (g : Bool) (A : Option Addr) (n c : Nat) (ds : List Nat) (e1 : Int) (b2 : Nat) (k : Bool) (B : Option Addr) (m d : Nat) (es : List Nat) (e2 : Int) (w' : World) : Prop :=
  w'.cell? ⟨b1, 0, none⟩ = some (.bool g) ∧ w'.cell? ⟨b1, 1, none⟩ = some (.slice A n c) ∧ w'.cell? ⟨b1, 2, none⟩ = some (.int .i64 e1) ∧ w'.cell? ⟨b2, 0, none⟩ = some (.bool k) ∧ w'.cell? ⟨b2, 1, none⟩ = some (.slice B m d) ∧ w'.cell? ⟨b2, 2, none⟩ = some (.int .i64 e2) ∧ Hid (HN w0 b1 g A n c ds e1 b2 k B m d es e2 w')
section
variable {w0 : World} {b1 : Nat} {g : Bool} {A : Option Addr} {n c : Nat} {ds : List Nat} {e1 : Int} {b2 : Nat} {k : Bool} {B : Option Addr} {m d : Nat} {es : List Nat} {e2 : Int} {w w' : World}
theorem HN.below (h : HN w0 b1 g A n c ds e1 b2 k B m d es e2 w) (hb : Below w.heap.size w w') : HN w0 b1 g A n c ds e1 b2 k B m d es e2 w' := by
  obtain ⟨h1, h2, h3, h4, h5⟩ := h
  exact ⟨h1.below hb, h2.below hb, h3.below hb, h4.below hb, h5.trans (hb.mono h5.size)⟩
theorem HN.cells (h : HN w0 b1 g A n c ds e1 b2 k B m d es e2 w) : CellsN w0 b1 g A n c ds e1 b2 k B m d es e2 w := ⟨h.1.c0, h.1.c1, h.1.c2, h.2.1.c0, h.2.1.c1, h.2.1.c2, h⟩
end
theorem HN.start (w : World) (g : Bool) (A : Option Addr) (n c : Nat) (ds : List Nat) (e1 : Int) (k : Bool) (B : Option Addr) (m d : Nat) (es : List Nat) (e2 : Int) (hA : Dig w A n c ds) (hB : Dig w B m d es) :
    HN w w.heap.size g A n c ds e1 (w.heap.size + 1) k B m d es e2 ((w.alloc (.cells #[.bool g, .slice A n c, .int .i64 e1] 31)).alloc (.cells #[.bool k, .slice B m d, .int .i64 e2] 31)) := by
  have a3 : Below w.heap.size w ((w.alloc (.cells #[.bool g, .slice A n c, .int .i64 e1] 31)).alloc (.cells #[.bool k, .slice B m d, .int .i64 e2] 31)) := ((Below.refl _ _).alloc (Nat.le_refl _) _).alloc (by simp) _
  have b1 := (Bd.new w 31 g A n c e1).alloc (.cells #[.bool k, .slice B m d, .int .i64 e2] 31)
  have b2 := Bd.new (w.alloc (.cells #[.bool g, .slice A n c, .int .i64 e1] 31)) 31 k B m d e2
  rw [World.size_alloc] at b2
  exact ⟨b1, b2, hA.below a3, hB.below a3, a3⟩
theorem HN.start3 (w : World) (g : Bool) (A : Option Addr) (n c : Nat) (ds : List Nat) (e1 : Int) (k : Bool) (B : Option Addr) (m d : Nat) (es : List Nat) (e2 : Int) (hA : Dig w A n c ds) (hB : Dig w B m d es) :
    HN w w.heap.size g A n c ds e1 (w.heap.size + 1) k B m d es e2 (((w.alloc (.cells #[.bool g, .slice A n c, .int .i64 e1] 31)).alloc (.cells #[.bool k, .slice B m d, .int .i64 e2] 31)).alloc (.cells #[.bool false, .slice none 0 0, .int .i64 0] 31)) ∧
    Bd (((w.alloc (.cells #[.bool g, .slice A n c, .int .i64 e1] 31)).alloc (.cells #[.bool k, .slice B m d, .int .i64 e2] 31)).alloc (.cells #[.bool false, .slice none 0 0, .int .i64 0] 31)) (w.heap.size + 1 + 1) 31 false none 0 0 0 := by
  have b3 := Bd.new ((w.alloc (.cells #[.bool g, .slice A n c, .int .i64 e1] 31)).alloc (.cells #[.bool k, .slice B m d, .int .i64 e2] 31)) 31 false none 0 0 0
  rw [World.size_alloc, World.size_alloc] at b3
  exact ⟨(HN.start w g A n c ds e1 k B m d es e2 hA hB).below (below1 _ _), b3⟩

/-- The first number is 0: the second one. -/
theorem radd_zero (g : Bool) (A : Option Addr) (c : Nat) (e1 : Int) (k : Bool) (B : Option Addr) (m d : Nat) (es : List Nat) (e2 : Int) (w : World) (hB : Dig w B m d es) (bb : D.Bare es) :
    Calls Tryd.prog 20 #[.agg #[.bool g, .slice A 0 c, .int .i64 e1], .agg #[.bool k, .slice B m d, .int .i64 e2]] w (NTold w ⟨k, D.val es, e2⟩ m) := by
  have h0 := (HN.start w g A 0 c [] e1 k B m d es e2 (Dig.nil _ _ _) hB).below (below1 _ (.cells #[.bool k, .slice B m d, .int .i64 e2] 31))
  have Hfin : Hid (NTold w ⟨k, D.val es, e2⟩ m (.returned (.agg #[.bool k, .slice B m d, .int .i64 e2])) (((w.alloc (.cells #[.bool g, .slice A 0 c, .int .i64 e1] 31)).alloc (.cells #[.bool k, .slice B m d, .int .i64 e2] 31)).alloc (.cells #[.bool k, .slice B m d, .int .i64 e2] 31))) :=
    ⟨B, m, d, es, rfl, Nat.le_refl _, h0.2.2.2.1, bb, rfl, h0.2.2.2.2⟩
  clear h0 hB bb
  go_enter Tryd.func20, Tryd.ntmps20
  go_wp2
  exact bodyPost_ret (v := .agg #[.bool k, .slice B m d, .int .i64 e2]) (by simp [results, Tryd.results20, go_sem]) rfl Hfin.out
end Go.Proofs.YtafgooiakmmfkaaDoor
/- The walk of dyad.Of from 0 on. -/
namespace Go.Proofs.YtafgooiakmmfkaaDoor
open Go.RowKit

theorem dsize_nat (n : Nat) (hn : n < 9223372036854775808) (w : World) : Calls Tryd.prog 65 #[.int .i64 (n : Int)] w fun e w' => e = .returned (.int .u64 (n : Int)) ∧ w = w' := by
  have b1 : decide ((n : Int) < 0) = false := decide_eq_false (by omega)
  go_enter Tryd.func65, Tryd.ntmps65
  go_wp2
  go_ret
  exact ⟨rfl, rfl⟩

set_option maxHeartbeats 2000000 in
theorem dof_nat (n : Nat) (hn : n < 9223372036854775808) (g : Bool) (V : Nat) (E : Int) (w : World) (hT : Tab w) (hd : mk false n 0 = some ⟨g, V, E⟩) : Calls Tryd.prog 32 #[.int .i64 (n : Int)] w (Tells1 w g V 1 E) := by
  have a3 := below1 w (.cells #[.bool false, .slice none 0 0, .int .i64 0] 36)
  have HT := Lib.hid (hT.below a3)
  have Hb := Lib.hid (Bd.new w 36 false none 0 0 0)
  have HS := Lib.hid a3
  have Hd := Lib.hid hd
  have b1 : decide ((n : Int) < 0) = false := decide_eq_false (by omega)
  clear a3 hT hd
  go_enter Tryd.func32, Tryd.ntmps32
  go_wp2_with fail
  refine (dsize_nat n hn _).mono ?_
  rintro e w' ⟨rfl, rfl⟩
  go_wp2_with fail
  refine (of_any n (by omega) _).mono ?_
  rintro e w1 ⟨A1, m1, c1, zs, rfl, hm1, hl1, hb1, hv1, hB1⟩
  have HM := Lib.hid (make_any false A1 m1 c1 zs 0 w1 hl1 (by omega) (HT.out.below hB1))
  rw [hv1, Hd.out] at HM
  have Hb1 := Lib.hid (Hb.out.below hB1)
  have HS1 := Lib.hid (HS.out.trans (hB1.mono HS.out.size))
  clear hl1 hb1 hv1 hB1 HT Hb HS Hd
  go_wp2_with fail
  refine HM.out.mono ?_
  rintro e w2 ⟨g2, A2, m2, c2, us, E2, r2, rfl, hm2, hl2, hb2, his, hB2⟩
  obtain ⟨rfl, rfl, hz, rfl⟩ := his
  have k2 := Hb1.out.below hB2
  have Hfin : Hid (Tells1 w g2 V 1 E2 (.returned (.agg #[.bool g2, .slice A2 m2 c2, .int .i64 E2])) (World.put (w2.alloc (.cells #[.bool g2, .slice A2 m2 c2, .int .i64 E2] 36)) w.heap.size g2 A2 m2 c2 E2)) :=
    ⟨A2, m2, c2, us, rfl, by omega, (k2.alloc _).lim (hl2.alloc _) _ _ _ _ _, hb2, hz, below_put ((HS1.out.trans (hB2.mono HS1.out.size)).alloc (HS1.out.trans (hB2.mono HS1.out.size)).size _) (Nat.le_refl _) _ _ _ _ _⟩
  have y0 := fun o => (k2.alloc o).c0
  have y1 := fun o => (k2.alloc o).c1
  have y2 := fun o => (k2.alloc o).c2
  have yf := fun o => (k2.alloc o).fz
  clear k2 hB2 hl2 hb2 HM Hb1 HS1 hz
  go_wp2
  exact bodyPost_ret (v := .agg #[.bool g2, .slice A2 m2 c2, .int .i64 E2]) (by simp [results, Tryd.results32, go_sem, y0, y1, y2]) rfl Hfin.out
end Go.Proofs.YtafgooiakmmfkaaDoor
/- The walk of planimeterref03.Div. -/
namespace Go.Proofs.YtafgooiakmmfkaaDoor
open Go.RowKit

/-- Two numbers in digits. -/
def DTellsD (w : World) (Q R L M : Nat) (e : Ending) (w' : World) : Prop :=
  ∃ A m c zs A' m' c' ys, e = .returned (.tuple #[.slice A m c, .slice A' m' c']) ∧ m ≤ L ∧ m' ≤ M ∧ Dig w' A m c zs ∧ Dig w' A' m' c' ys ∧ D.Bare zs ∧ D.Bare ys ∧ D.val zs = Q ∧ D.val ys = R ∧ Below w.heap.size w w'

/-- One bit more. -/
theorem bit_more (X i : Nat) : X / 2 ^ i = 2 * (X / 2 ^ (i + 1)) + X / 2 ^ i % 2 := by
  rw [Nat.pow_succ, ← Nat.div_div_eq_div_mul]
  omega
theorem div_one {T Y v : Nat} (hY : 0 < Y) (hv : v ≤ 1) (h : Y ≤ 2 * (T % Y) + v) : (2 * T + v) / Y = 2 * (T / Y) + 1 ∧ (2 * T + v) % Y = 2 * (T % Y) + v - Y := by
  have h1 := Nat.div_add_mod T Y
  have h2 := Nat.mod_lt T hY
  have e : 2 * T + v = (2 * (T % Y) + v - Y) + Y * (2 * (T / Y) + 1) := by
    have : Y * (2 * (T / Y) + 1) = 2 * (Y * (T / Y)) + Y := by rw [Nat.mul_add, Nat.mul_left_comm, Nat.mul_one]
    omega
  refine ⟨?_, ?_⟩
  · rw [e, Nat.add_mul_div_left _ _ hY, Nat.div_eq_of_lt (by omega), Nat.zero_add]
  · conv => lhs; rw [e]
    rw [Nat.add_mul_mod_self_left, Nat.mod_eq_of_lt (by omega)]
theorem div_none {T Y v : Nat} (hY : 0 < Y) (h : 2 * (T % Y) + v < Y) : (2 * T + v) / Y = 2 * (T / Y) + 0 ∧ (2 * T + v) % Y = 2 * (T % Y) + v := by
  have h1 := Nat.div_add_mod T Y
  have e : 2 * T + v = (2 * (T % Y) + v) + Y * (2 * (T / Y)) := by
    have : Y * (2 * (T / Y)) = 2 * (Y * (T / Y)) := Nat.mul_left_comm _ _ _
    omega
  refine ⟨?_, ?_⟩
  · rw [e, Nat.add_mul_div_left _ _ hY, Nat.div_eq_of_lt h, Nat.zero_add, Nat.add_zero]
  · conv => lhs; rw [e]
    rw [Nat.add_mul_mod_self_left, Nat.mod_eq_of_lt h]
theorem D.len_lt {zs : List Nat} (hb : D.Bare zs) {n M : Nat} (hl : zs.length = n) (h : D.val zs < D.pw M) : n ≤ M := by
  rcases Nat.lt_or_ge M n with h1 | h1
  · obtain ⟨j, hj⟩ : ∃ j, D.tl zs = j + 1 := ⟨D.tl zs - 1, by rw [hb]; omega⟩
    have h2 := D.val_pos_of_tl hj
    have h3 := D.pw_mono (show M ≤ j by rw [hb] at hj; omega)
    omega
  · exact h1


end Go.Proofs.YtafgooiakmmfkaaDoor
/- The arithmetic of roots: the greatest number whose k-th power is at most a; Newton's step; roots of roots. -/
namespace Go.Proofs.YtafgooiakmmfkaaDoor

/-- The greatest of 0 .. n whose k-th power is at most a. -/
def rtUp (k a : Nat) : Nat → Nat
  | 0 => 0
  | n + 1 => if (n + 1) ^ k ≤ a then n + 1 else rtUp k a n
/-- The k-th root without what is behind the point. -/
def rt (k a : Nat) : Nat := rtUp k a a
theorem rtUp_le {k a : Nat} (hk : 1 ≤ k) (n : Nat) : rtUp k a n ^ k ≤ a := by
  induction n with
  | zero => rw [rtUp, Nat.zero_pow hk]; exact Nat.zero_le _
  | succ n ih => rw [rtUp]; split <;> assumption
theorem le_rtUp {k a x : Nat} (n : Nat) (hx : x ≤ n) (h : x ^ k ≤ a) : x ≤ rtUp k a n := by
  induction n with
  | zero => omega
  | succ n ih =>
    rw [rtUp]
    split
    · exact hx
    · rename_i h1
      rcases Nat.lt_or_ge n x with h2 | h2
      · have : x = n + 1 := by omega
        subst this; exact absurd h h1
      · exact ih h2
theorem le_pow_self (x : Nat) {k : Nat} (hk : 1 ≤ k) : x ≤ x ^ k := by
  rcases Nat.eq_zero_or_pos x with rfl | h
  · exact Nat.zero_le _
  · exact Nat.le_trans (Nat.le_of_eq (Nat.pow_one x).symm) (Nat.pow_le_pow_right h hk)
theorem rt_le {k a : Nat} (hk : 1 ≤ k) : rt k a ^ k ≤ a := rtUp_le hk a
theorem le_rt {k a x : Nat} (hk : 1 ≤ k) (h : x ^ k ≤ a) : x ≤ rt k a := le_rtUp a (Nat.le_trans (le_pow_self x hk) h) h
theorem lt_rt {k a : Nat} (hk : 1 ≤ k) : a < (rt k a + 1) ^ k := by
  rcases Nat.lt_or_ge a ((rt k a + 1) ^ k) with h | h
  · exact h
  · have := le_rt hk h; omega
theorem rt_self_le {k a : Nat} (hk : 1 ≤ k) : rt k a ≤ a := Nat.le_trans (le_pow_self _ hk) (rt_le hk)
theorem rt_lt_iff {k a x : Nat} (hk : 1 ≤ k) : rt k a < x ↔ a < x ^ k := by
  constructor
  · intro h; exact Nat.lt_of_lt_of_le (lt_rt hk) (Nat.pow_le_pow_left h k)
  · intro h
    rcases Nat.lt_or_ge (rt k a) x with h1 | h1
    · exact h1
    · have := Nat.le_trans (Nat.pow_le_pow_left h1 k) (rt_le hk); omega
theorem le_rt_iff {k a x : Nat} (hk : 1 ≤ k) : x ≤ rt k a ↔ x ^ k ≤ a := by
  constructor
  · intro h; exact Nat.le_trans (Nat.pow_le_pow_left h k) (rt_le hk)
  · exact le_rt hk
theorem rt_eq {k a r : Nat} (hk : 1 ≤ k) (h1 : r ^ k ≤ a) (h2 : a < (r + 1) ^ k) : rt k a = r := by
  have := le_rt hk h1
  have := (rt_lt_iff hk).2 h2
  omega
theorem rt_pow {k x : Nat} (hk : 1 ≤ k) : rt k (x ^ k) = x :=
  rt_eq hk (Nat.le_refl _) (Nat.pow_lt_pow_left (Nat.lt_succ_self x) (by omega))
theorem rt_mono {k a b : Nat} (hk : 1 ≤ k) (h : a ≤ b) : rt k a ≤ rt k b := le_rt hk (Nat.le_trans (rt_le hk) h)
theorem rt_nest {m n a : Nat} (hm : 1 ≤ m) (hn : 1 ≤ n) : rt n (rt m a) = rt (m * n) a := by
  have hmn : 1 ≤ m * n := Nat.mul_pos hm hn
  symm
  apply rt_eq hmn
  · rw [Nat.mul_comm, Nat.pow_mul]
    exact Nat.le_trans (Nat.pow_le_pow_left (rt_le hn) m) (rt_le hm)
  · rw [Nat.mul_comm, Nat.pow_mul]
    exact (rt_lt_iff hm).1 (lt_rt hn)
theorem rt_one_k (a : Nat) : rt 1 a = a := rt_eq (Nat.le_refl _) (by rw [Nat.pow_one]; exact Nat.le_refl _) (by rw [Nat.pow_one]; exact Nat.lt_succ_self a)
theorem rt_zero {k : Nat} (hk : 1 ≤ k) : rt k 0 = 0 := by have := rt_self_le (a := 0) hk; omega
theorem rt_one {k : Nat} (hk : 1 ≤ k) : rt k 1 = 1 := by have := rt_pow (x := 1) hk; rwa [Nat.one_pow] at this

/-- What the root is where a has at most k bits. -/
theorem rt_few {k a : Nat} (hk : 1 ≤ k) (h : blen a ≤ k) : rt k a = min (blen a) 1 := by
  rcases Nat.eq_zero_or_pos a with rfl | h0
  · rw [rt_zero hk, blen_zero]; rfl
  · have h1 := blen_pos (show a ≠ 0 by omega)
    rw [Nat.min_eq_right h1]
    apply rt_eq hk
    · rw [Nat.one_pow]; exact h0
    · exact blen_le_iff.1 h

/-- What is between two powers' means. -/
theorem mean_step (x r k : Nat) : (k + 1) * (r * x ^ k) ≤ r ^ (k + 1) + k * x ^ (k + 1) := by
  induction k with
  | zero => simp
  | succ k ih =>
    have h1 := Nat.mul_le_mul_left r ih
    have sq : 2 * (r * x) ≤ r * r + x * x := by
      rcases Nat.le_total r x with h | h
      · obtain ⟨d, rfl⟩ := Nat.exists_eq_add_of_le h
        have : r * r + (r + d) * (r + d) = 2 * (r * (r + d)) + d * d := by
          simp only [Nat.mul_add, Nat.add_mul, Nat.two_mul]; have := Nat.mul_comm d r; omega
        omega
      · obtain ⟨d, rfl⟩ := Nat.exists_eq_add_of_le h
        have : (x + d) * (x + d) + x * x = 2 * ((x + d) * x) + d * d := by
          simp only [Nat.mul_add, Nat.add_mul, Nat.two_mul]; have := Nat.mul_comm d x; omega
        omega
    have h2 := Nat.mul_le_mul_left ((k + 1) * x ^ k) sq
    have e1 : r * ((k + 1) * (r * x ^ k)) = (k + 1) * x ^ k * (r * r) := by ac_rfl
    have e2 : (k + 1) * x ^ k * (2 * (r * x)) = (k + 1) * (r * x ^ (k + 1)) + (k + 1) * (r * x ^ (k + 1)) := by
      rw [Nat.pow_succ, show (k + 1) * x ^ k * (2 * (r * x)) = 2 * ((k + 1) * (r * (x ^ k * x))) by ac_rfl, Nat.two_mul]
    have e3 : (k + 1) * x ^ k * (x * x) = (k + 1) * x ^ (k + 2) := by rw [Nat.pow_succ, Nat.pow_succ]; ac_rfl
    have e4 : r * (r ^ (k + 1) + k * x ^ (k + 1)) = r ^ (k + 2) + k * (r * x ^ (k + 1)) := by
      rw [Nat.mul_add, Nat.pow_succ r (k + 1), Nat.mul_comm (r ^ (k + 1)) r]; congr 1; ac_rfl
    rw [e1, e4] at h1
    rw [Nat.mul_add, e2, e3] at h2
    have e5 : (k + 1 + 1) * (r * x ^ (k + 1)) = (k + 1) * (r * x ^ (k + 1)) + r * x ^ (k + 1) := by rw [Nat.add_mul, Nat.one_mul]
    have e6 : (k + 1) * (r * x ^ (k + 1)) = k * (r * x ^ (k + 1)) + r * x ^ (k + 1) := by rw [Nat.add_mul, Nat.one_mul]
    rw [e5]
    show _ ≤ r ^ (k + 2) + (k + 1) * x ^ (k + 2)
    omega

/-- Newton's step. -/
def nstep (k a x : Nat) : Nat := (x * (k - 1) + a / x ^ (k - 1)) / k
theorem nstep_ge {k a x : Nat} (hk : 1 ≤ k) (hx : 1 ≤ x) : rt k a ≤ nstep k a x := by
  obtain ⟨j, rfl⟩ : ∃ j, k = j + 1 := ⟨k - 1, by omega⟩
  unfold nstep
  rw [Nat.add_sub_cancel]
  apply (Nat.le_div_iff_mul_le hk).2
  have h1 := mean_step x (rt (j + 1) a) j
  have h2 := rt_le (a := a) hk
  generalize rt (j + 1) a = r at h1 h2
  have hp : 0 < x ^ j := Nat.pow_pos hx
  rcases Nat.lt_or_ge (x * j) (r * (j + 1)) with h | h
  · obtain ⟨d, hd⟩ := Nat.exists_eq_add_of_le (Nat.le_of_lt h)
    rw [hd]
    apply Nat.add_le_add_left
    apply (Nat.le_div_iff_mul_le hp).2
    have e1 : (j + 1) * (r * x ^ j) = (r * (j + 1)) * x ^ j := by ac_rfl
    have e2 : x * j * x ^ j = j * x ^ (j + 1) := by rw [Nat.pow_succ]; ac_rfl
    rw [e1, hd, Nat.add_mul, e2] at h1
    omega
  · exact Nat.le_trans h (Nat.le_add_right _ _)
theorem nstep_lt {k a x : Nat} (hk : 1 ≤ k) (h : rt k a < x) : nstep k a x < x := by
  obtain ⟨j, rfl⟩ : ∃ j, k = j + 1 := ⟨k - 1, by omega⟩
  unfold nstep
  rw [Nat.add_sub_cancel]
  have hx : 0 < x := by omega
  have h1 := (rt_lt_iff hk).1 h
  have hp : 0 < x ^ j := Nat.pow_pos hx
  have h2 : a / x ^ j < x := (Nat.div_lt_iff_lt_mul hp).2 (by rw [Nat.mul_comm, ← Nat.pow_succ]; exact h1)
  apply (Nat.div_lt_iff_lt_mul hk).2
  rw [Nat.mul_add, Nat.mul_one]
  omega

/-- A number above the root, by the root of the upper half. -/
def start (k a h : Nat) : Nat := (rt k (a / 2 ^ (h * k)) + 1) * 2 ^ h
theorem start_gt {k a : Nat} (h : Nat) (hk : 1 ≤ k) : rt k a < start k a h := by
  apply (rt_lt_iff hk).2
  unfold start
  have h1 := lt_rt (a := a / 2 ^ (h * k)) hk
  rw [Nat.mul_pow, ← Nat.pow_mul]
  exact (Nat.div_lt_iff_lt_mul (Nat.two_pow_pos _)).1 h1
theorem start_le {k a h p : Nat} (hk : 1 ≤ k) (hp : blen a ≤ p * k) (hh : h ≤ p) : start k a h ≤ 2 ^ p := by
  unfold start
  have h1 := blen_le_iff.1 hp
  have h2 : rt k (a / 2 ^ (h * k)) < 2 ^ (p - h) := by
    apply (rt_lt_iff hk).2
    rw [← Nat.pow_mul]
    apply (Nat.div_lt_iff_lt_mul (Nat.two_pow_pos _)).2
    rw [← Nat.pow_add, ← Nat.add_mul, Nat.sub_add_cancel hh]
    exact h1
  calc (rt k (a / 2 ^ (h * k)) + 1) * 2 ^ h ≤ 2 ^ (p - h) * 2 ^ h := Nat.mul_le_mul_right _ h2
    _ = 2 ^ p := by rw [← Nat.pow_add, Nat.sub_add_cancel hh]

/-- Is it a k-th power? -/
def Ex (k a : Nat) : Prop := rt k a ^ k = a
instance (k a : Nat) : Decidable (Ex k a) := inferInstanceAs (Decidable (_ = _))
theorem ex_iff {k a : Nat} (hk : 1 ≤ k) : Ex k a ↔ ∃ s, s ^ k = a := by
  constructor
  · intro h; exact ⟨_, h⟩
  · rintro ⟨s, rfl⟩; unfold Ex; rw [rt_pow hk]
theorem ex_nest {m n a : Nat} (hm : 1 ≤ m) (hn : 1 ≤ n) : Ex (m * n) a ↔ Ex m a ∧ Ex n (rt m a) := by
  unfold Ex
  rw [rt_nest hm hn]
  constructor
  · intro h
    have h1 : rt m a = rt (m * n) a ^ n := by
      conv => lhs; rw [← h, Nat.mul_comm m n, Nat.pow_mul]
      rw [rt_pow hm, Nat.mul_comm]
    refine ⟨?_, h1.symm⟩
    rw [h1, ← Nat.pow_mul, Nat.mul_comm n m]; exact h
  · rintro ⟨h1, h2⟩
    rw [Nat.mul_comm m n, Nat.pow_mul, Nat.mul_comm n m, h2]; exact h1
theorem pow_inj {k a b : Nat} (hk : 1 ≤ k) (h : a ^ k = b ^ k) : a = b := by
  have := rt_pow (x := a) hk
  rw [h, rt_pow hk] at this
  exact this.symm
theorem ex_small {k a : Nat} (hk : 1 ≤ k) (h : a ≤ 1) : Ex k a ∧ rt k a = a := by
  have : a = 0 ∨ a = 1 := by omega
  rcases this with rfl | rfl
  · exact ⟨by rw [Ex, rt_zero hk, Nat.zero_pow hk], rt_zero hk⟩
  · exact ⟨by rw [Ex, rt_one hk, Nat.one_pow], rt_one hk⟩
end Go.Proofs.YtafgooiakmmfkaaDoor
/- The walks of planimeterref04.Above and planimeterref04.Root: the document's root, bit by bit. -/
namespace Go.Proofs.YtafgooiakmmfkaaDoor
open Go.RowKit

/-- Cmp of digits, the sign a letter, the world behind it a letter. -/
theorem rcmp_v (v : Int) (A : Option Addr) (n c : Nat) (us : List Nat) (B : Option Addr) (m d : Nat) (bs : List Nat) (w : World) (hA : Dig w A n c us) (hB : Dig w B m d bs) (ba : D.Bare us) (bb : D.Bare bs) (hn : n ≤ 1000000) (hm : m ≤ 1000000) (hv : Hid (cmpZ (D.val us) (D.val bs) = v)) :
    Calls Tryd.prog 46 #[.slice A n c, .slice B m d] w fun e w' => e = .returned (.int .i64 v) ∧ Below w.heap.size w w' := by
  rw [← hv.out]
  refine (rcmp_any A n c us B m d bs w hA hB ba bb hn hm).mono ?_
  rintro e w' ⟨rfl, q, rfl⟩
  exact ⟨rfl, below_drewN (Below.refl _ _) q⟩
theorem dlen_of_le {w w' : World} {A B : Option Addr} {n c m d : Nat} {us bs : List Nat} (hA : Dig w A n c us) (hB : Dig w' B m d bs) (hb : D.Bare bs) (h : D.val bs ≤ D.val us) : m ≤ n := by
  have h1 := D.val_lt hA.words
  have h2 := D.len_of_lt hb (Nat.lt_of_le_of_lt h h1)
  rw [hA.len, hB.len] at h2
  exact h2
theorem dlen_two {w : World} {A : Option Addr} {n c : Nat} {us : List Nat} {i M : Nat} (hA : Dig w A n c us) (hb : D.Bare us) (h : D.val us = 2 ^ i) (hi : i < 16 * M) : n ≤ M := by
  have h2 := D.len_of_lt (M := M) hb (by rw [h, D.pw_two]; exact Nat.pow_lt_pow_right (by decide) hi)
  rw [hA.len] at h2
  exact h2


/-- One bit of the root more. -/
theorem root_bit {R i x : Nat} (hx : x = R / 2 ^ (i + 1) * 2 ^ (i + 1)) : (x + 2 ^ i ≤ R → x + 2 ^ i = R / 2 ^ i * 2 ^ i) ∧ (¬ x + 2 ^ i ≤ R → x = R / 2 ^ i * 2 ^ i) := by
  have h1 := half_bit R i
  have hp := Nat.two_pow_pos i
  have e1 : x = 2 * (R / 2 ^ (i + 1)) * 2 ^ i := by rw [hx, Nat.pow_succ]; ac_rfl
  have e2 : x + 2 ^ i = (2 * (R / 2 ^ (i + 1)) + 1) * 2 ^ i := by rw [e1, Nat.add_mul, Nat.one_mul]
  have hv : R / 2 ^ i % 2 = 0 ∨ R / 2 ^ i % 2 = 1 := by omega
  have hiff : x + 2 ^ i ≤ R ↔ 2 * (R / 2 ^ (i + 1)) + 1 ≤ R / 2 ^ i := by
    rw [e2]; exact (Nat.le_div_iff_mul_le hp).symm
  refine ⟨fun h => ?_, fun h => ?_⟩
  · have h2 := hiff.1 h
    rw [e2]
    congr 1
    omega
  · have h2 : ¬ 2 * (R / 2 ^ (i + 1)) + 1 ≤ R / 2 ^ i := fun h3 => h (hiff.2 h3)
    rw [e1]
    congr 1
    omega


end Go.Proofs.YtafgooiakmmfkaaDoor
/- The walk of planimeterref05.To of a number of at most 197 digits that isn't 0. -/
namespace Go.Proofs.YtafgooiakmmfkaaDoor
open Go.RowKit

theorem RelTf.of {w : World} {g : Bool} {V : Nat} {E : Int} {A : Option Addr} {m c : Nat} {ds : List Nat} {u : World} (dg : Bool) (dE : Int) (h : HoldT w g A m c ds E u) {p : Nat} (hp : w.heap.size + 1 < p) {g0 : Bool} {A0 : Option Addr} {n0 c0 : Nat} {e0 : Int} (hB : Bd u p 31 g0 A0 n0 c0 e0) {A5 : Option Addr} {m5 c5 : Nat} {es : List Nat} (hl : Dig u A5 m5 c5 es) (hd : D.Bare es) (hv : D.val es = V) (hm : m5 ≤ 200) : RelT w dg V dE p A5 m5 c5 es (World.put u p dg A5 m5 c5 dE) :=
  ⟨hB.put _ _ _ _ _, h.2.1.other (by omega) _ _ _ _ _, hB.dig hl _ _ _ _ _, hd, hv, hm, hp, below_put h.2.2.2 (by omega) _ _ _ _ _⟩

set_option maxHeartbeats 4000000 in
theorem rto_far (g : Bool) (V : Nat) (E : Int) (dg : Bool) (dV : Nat) (dE : Int) (A : Option Addr) (m c : Nat) (ds : List Nat) (w : World) (hA : Dig w A m c ds) (hd : D.Bare ds) (hv : D.val ds = V) (hm : m ≤ 197) (hN : nO g V E = ⟨dg, dV, dE⟩) (hV0 : dV ≠ 0) (hE1 : -1073741824 ≤ dE) (hE2 : dE ≤ 1073741824) :
    Calls Tryd.prog 19 #[.agg #[.bool g, .slice A m c, .int .i64 E]] w (TTold w ⟨dg, dV, dE⟩ 50) := by
  have a3 : Below w.heap.size w ((w.alloc (.cells #[.bool g, .slice A m c, .int .i64 E] 31)).alloc (.cells #[.bool false, .slice none 0 0, .int .i64 0] 24)) := ((Below.refl _ _).alloc (Nat.le_refl _) _).alloc (by simp) _
  have b1 := (Bd.new w 31 g A m c E).alloc (.cells #[.bool false, .slice none 0 0, .int .i64 0] 24)
  have b2 := Bd.new (w.alloc (.cells #[.bool g, .slice A m c, .int .i64 E] 31)) 24 false none 0 0 0
  rw [World.size_alloc] at b2
  have h0 : HoldT w g A m c ds E ((w.alloc (.cells #[.bool g, .slice A m c, .int .i64 E] 31)).alloc (.cells #[.bool false, .slice none 0 0, .int .i64 0] 24)) := ⟨b1, b2, hA.below a3, a3⟩
  have F0 := Lib.hid (h0.below (below_drew _))
  have F0c := Lib.hid F0.out.cells
  have F1 := Lib.hid ((h0.below (below1 _ (.cells #[.bool false, .slice none 0 0, .int .i64 0] 31))).below (below_drew _))
  have F1c := Lib.hid F1.out.cells
  have z1 := Bd.new ((w.alloc (.cells #[.bool g, .slice A m c, .int .i64 E] 31)).alloc (.cells #[.bool false, .slice none 0 0, .int .i64 0] 24)) 31 false none 0 0 0
  rw [World.size_alloc, World.size_alloc] at z1
  have Z1 := Lib.hid z1.drew
  have HL : Hid (∀ u, HoldT w g A m c ds E u → Calls Tryd.prog 42 #[.slice A m c] u (Tells u V ((m + 3) / 4))) := fun u hu => by
    have := limbs_t A m c ds u hu.2.2.1 hd (by omega)
    rw [hv] at this
    exact this
  have HO : Hid (∀ u A1 m1 c1 zs, Lim u A1 m1 c1 zs → val zs = V → m1 ≤ 50 → Calls Tryd.prog 9 #[.agg #[.bool g, .slice A1 m1 c1, .int .i64 E]] u (NTold u ⟨dg, dV, dE⟩ (4 * m1))) := fun u A1 m1 c1 zs h1 h2 h3 => by
    have := rof_any g A1 m1 c1 zs E u h1 (by omega)
    rw [h2, hN] at this
    exact this
  clear a3 b1 b2 hA h0 z1 hN hd hv
  go_enter Tryd.func19, Tryd.ntmps19
  go_wp2_with fail
  go_cut [4] from 5 (fun s4 wx => ∃ (p m5 c5 : Nat) (A5 : Option Addr) (es : List Nat), s4 = .pointer (some ⟨p, 0, none⟩) ∧ Hid (RelT w dg dV dE p A5 m5 c5 es wx))
  case first =>
    go_region_held3 (fun w' => w'.cell? ⟨w.heap.size, 0, none⟩ = some (.bool g) ∧ w'.cell? ⟨w.heap.size, 1, none⟩ = some (.slice A m c) ∧ w'.cell? ⟨w.heap.size, 2, none⟩ = some (.int .i64 E))
      (first | (with_reducible exact F0c.out) | (with_reducible exact F1c.out) | (with_reducible exact K1.out) | (with_reducible exact K1a.out _) | (with_reducible exact K2.out) | (with_reducible exact K2a.out _) | (with_reducible exact K2b.out))
      (first
        | (go_at_call 42; (with_reducible refine (HL.out _ F0.out).mono ?_); rintro e w1 ⟨A1, m1, c1, zs, rfl, hm1, hl1, hb1, hv1, hB1⟩; have h1 := F0.out.below hB1; have K1 := Lib.hid h1.cells; have K1a : Hid (∀ o, CellsT w g A m c E (w1.alloc o)) := fun o => (h1.below (below1 _ o)).cells; have h1 := Lib.hid h1; have L1 : Hid (Lim w1 A1 m1 c1 zs ∧ val zs = V) := ⟨hl1, hv1⟩; clear hl1 hb1 hv1 hB1)
        | (go_at_call 42; (with_reducible refine (HL.out _ F1.out).mono ?_); rintro e w1 ⟨A1, m1, c1, zs, rfl, hm1, hl1, hb1, hv1, hB1⟩; have g1 := F1.out.below hB1; have K1 := Lib.hid g1.cells; have G1 := Lib.hid (Z1.out.below hB1); have g1 := Lib.hid g1; have M1 : Hid (Lim w1 A1 m1 c1 zs ∧ val zs = V) := ⟨hl1, hv1⟩; clear hl1 hb1 hv1 hB1)
        | (go_at_call 9; (with_reducible refine (HO.out w1 A1 m1 c1 zs L1.out.1 L1.out.2 (by omega)).mono ?_); rintro e w2 ⟨A2, m2, c2, es, rfl, hm2, hl2, hd2, hv2, hB2⟩; have h2 := h1.out.below hB2; have K2 := Lib.hid h2.cells; have K2a : Hid (∀ o, CellsT w g A m c E (w2.alloc o)) := fun o => (h2.below (below1 _ o)).cells; have hsz : w.heap.size + 1 < w2.heap.size := h2.2.1.lt; have q2 := h2.below (below1 _ (.cells #[.bool false, .slice none 0 0, .int .i64 0] 31)); have z2 := Bd.new w2 31 false none 0 0 0; have u0 := z2.c0; have u1 := z2.c1; have u2 := z2.c2; have uf := z2.fz; have K2b := Lib.hid (q2.put hsz z2 dg A2 m2 c2 dE).cells; have Fin0 : Hid (RelT w dg dV dE w2.heap.size A2 m2 c2 es (w2.alloc (.cells #[.bool dg, .slice A2 m2 c2, .int .i64 dE] 31))) := ⟨Bd.new w2 _ _ _ _ _ _, h2.2.1.alloc _, hl2.alloc _, hd2, hv2, by omega, hsz, h2.2.2.2.trans ((below1 w2 _).mono h2.2.2.2.size)⟩; clear q2 z2 hl2 hd2 hv2 hB2 h2)
        | (go_at_call 9; (with_reducible refine (HO.out (w1.alloc (.cells #[.bool false, .slice none 0 0, .int .i64 0] 31)) A1 m1 c1 zs (L1.out.1.alloc _) L1.out.2 (by omega)).mono ?_); rintro e w2 ⟨A2, m2, c2, es, rfl, hm2, hl2, hd2, hv2, hB2⟩; have h2 := (h1.out.below (below1 _ (.cells #[.bool false, .slice none 0 0, .int .i64 0] 31))).below hB2; have K2 := Lib.hid h2.cells; have hsz : w.heap.size + 1 < w1.heap.size := h1.out.2.1.lt; have z2 := (Bd.new w1 31 false none 0 0 0).below hB2; have u0 := z2.c0; have u1 := z2.c1; have u2 := z2.c2; have uf := z2.fz; have K2b := Lib.hid (h2.put hsz z2 dg A2 m2 c2 dE).cells; have Fin1 := Lib.hid (RelTf.of dg dE h2 hsz z2 hl2 hd2 hv2 (by omega)); clear z2 hl2 hd2 hv2 hB2 h2)
        | (go_at_call 9; (with_reducible refine (HO.out w1 A1 m1 c1 zs M1.out.1 M1.out.2 (by omega)).mono ?_); rintro e w2 ⟨A2, m2, c2, es, rfl, hm2, hl2, hd2, hv2, hB2⟩; have h2 := g1.out.below hB2; have K2 := Lib.hid h2.cells; have hsz : w.heap.size + 1 < w.heap.size + 1 + 1 := Nat.lt_succ_self _; have z2 := G1.out.below hB2; have u0 := z2.c0; have u1 := z2.c1; have u2 := z2.c2; have uf := z2.fz; have K2b := Lib.hid (h2.put hsz z2 dg A2 m2 c2 dE).cells; have Fin1 := Lib.hid (RelTf.of dg dE h2 hsz z2 hl2 hd2 hv2 (by omega)); clear z2 hl2 hd2 hv2 hB2 h2))
    all_goals (go_wp2_with fail)
    all_goals go_meet
    all_goals (refine ⟨_, m2, c2, A2, es, rfl, ?_⟩)
    all_goals (first | (with_reducible exact Fin1) | (with_reducible exact Fin0))
  case rest =>
    obtain ⟨wA, rfl⟩ : ∃ wA, wA = wc := ⟨_, rfl⟩
    obtain ⟨p, m5, c5, A5, es, rfl, HR⟩ := hcut
    have x0 := HR.out.1.c0
    have x1 := HR.out.1.c1
    have x2 := HR.out.1.c2
    clear F0 F0c F1 F1c Z1 HL HO
    go_wp2_with fail
    refine (fits_yes dg A5 m5 c5 dE wA hE1 hE2).mono ?_
    rintro e w2 ⟨rfl, hB2⟩
    have HR2 := Lib.hid (HR.out.below hB2)
    have y0 := HR2.out.1.c0
    have y1 := HR2.out.1.c1
    have y2 := HR2.out.1.c2
    have z0 := HR2.out.2.1.c0
    have z1 := HR2.out.2.1.c1
    have z2 := HR2.out.2.1.c2
    have zf := HR2.out.2.1.fz
    have hV5 := HR2.out.2.2.2.2.1
    have hL5 := HR2.out.2.2.1.len
    have hm5 := HR2.out.2.2.2.2.2.1
    clear HR hB2 x0 x1 x2
    have hm0 : m5 ≠ 0 := by
      intro h
      apply hV0
      rw [← hV5]
      rw [h] at hL5
      rw [List.eq_nil_of_length_eq_zero hL5]; rfl
    have c0 : ((m5 : Int) == 0) = false := beq_no (by omega)
    have h9 := HR2.out.below (below_drew _)
    have H9 := limbs_t A5 m5 c5 es _ h9.2.2.1 h9.2.2.2.1 (by omega)
    rw [hV5] at H9
    have H9 := Lib.hid H9
    have K0 := Lib.hid (And.intro h9.1.c0 (And.intro h9.1.c1 h9.1.c2))
    have h9 := Lib.hid h9
    clear hV5 hL5 hV0 hm0
    go_wp2_with fail
    go_region_held3 (fun w' => w'.cell? ⟨p, 0, none⟩ = some (.bool dg) ∧ w'.cell? ⟨p, 1, none⟩ = some (.slice A5 m5 c5) ∧ w'.cell? ⟨p, 2, none⟩ = some (.int .i64 dE))
      (first | (with_reducible exact K0.out) | (with_reducible exact K1.out) | (with_reducible exact K2.out))
      (first | (go_at_call 42; (with_reducible refine H9.out.mono ?_); rintro e w3 ⟨A6, m6, c6, zs, rfl, hm6, hl6, hb6, hv6, hB6⟩; have h3 := h9.out.below hB6; have K1 := Lib.hid (And.intro h3.1.c0 (And.intro h3.1.c1 h3.1.c2)); have q3 := h3.1.other (b' := w.heap.size + 1) (by have := h3.2.2.2.2.2.2.1; omega) dg A6 m6 c6 dE; have K2 := Lib.hid (And.intro q3.c0 (And.intro q3.c1 q3.c2)); have u0 := h3.2.1.c0; have u1 := h3.2.1.c1; have u2 := h3.2.1.c2; have uf := h3.2.1.fz; have Hfin : Hid (TTold w ⟨dg, dV, dE⟩ 50 (.returned (.tuple #[.agg #[.bool dg, .slice A6 m6 c6, .int .i64 dE], .int .i64 0])) (World.put w3 (w.heap.size + 1) dg A6 m6 c6 dE)) := ⟨A6, m6, c6, zs, rfl, by omega, h3.2.1.lim hl6 _ _ _ _ _, hb6, hv6, below_put h3.2.2.2.2.2.2.2 (Nat.le_succ _) _ _ _ _ _⟩; clear q3 h3 hl6 hb6 hv6 hB6))
    all_goals (
      clear K0 K1 K2 h9 H9 HR2 y0 y1 y2 z0 z1 z2 zf
      go_wp2_with fail
      exact bodyPost_ret (v := .tuple #[.agg #[.bool dg, .slice A6 m6 c6, .int .i64 dE], .int .i64 0]) (by simp [results, Tryd.results19, go_sem, u0, u1, u2]) rfl Hfin.out)
end Go.Proofs.YtafgooiakmmfkaaDoor
