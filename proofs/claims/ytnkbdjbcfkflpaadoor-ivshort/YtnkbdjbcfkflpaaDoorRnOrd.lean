/- Rounding keeps order; it is mirrored; what bits are worth stays; a little more is as a thousandth. -/
import Derived.Test.YtnkbdjbcfkflpaaDoorRnDo
namespace Go.Proofs.YtnkbdjbcfkflpaaDoor
open Go.RowKit

theorem toldD_self {d : Dy} (h : Fine d) : toldD d.neg d.V d.e = some d := by
  obtain ⟨g, V, e⟩ := d
  unfold toldD
  by_cases h0 : V = 0
  · obtain ⟨h1, h2⟩ := h.2.2 h0
    simp only at h1 h2 h0 ⊢
    rw [if_pos h0, h1, h2, h0]
  · have h1 : -1073741824 ≤ e := h.1
    have h2 : e ≤ 1073741824 := h.2.1
    simp only
    rw [if_neg h0, if_neg (by omega)]
/-- What is bare stays. -/
theorem mk_self {g : Bool} {V : Nat} {e : Int} {d : Dy} (h : mk g V e = some d) : mk d.neg d.V d.e = some d := by
  have hf := (mk_fine h).1
  have hO : Odd d := by rw [← mk_is h]; exact nO_odd g V e
  have hs : nO d.neg d.V d.e = d := nO_self hO (by have := hf.1; omega) (by have := hf.2.1; omega)
  rw [mk_nO, hs]
  exact toldD_self hf
theorem mk_pos {g : Bool} {V : Nat} {e : Int} {d : Dy} (h : mk g V e = some d) (hV : V ≠ 0) : d.neg = g ∧ d.V ≠ 0 ∧ sz d.V d.e = sz V e := by
  obtain ⟨h1, h2, h3, _⟩ := mk_fine h
  have h4 := (toldD_fine h).2.2 (fun h0 => hV (odd_part_zero.1 h0))
  refine ⟨h4.1, fun h0 => hV (h3.1 h0), ?_⟩
  have h5 : ∀ (g : Bool) (V : Nat) (e : Int), (dw g V e).natAbs = sz V e := fun g V e => by cases g <;> simp [dw]
  rw [← h5 d.neg, ← h5 g, h2]

theorem toR_some {g : Bool} {V : Nat} {e : Int} {more : Bool} {dir : Int} {d : Dy} (hd : 0 ≤ dir ∧ dir ≤ 3) (h : mk g V e = some d) (hV : d.V ≠ 0) :
    toR g V e more dir = ((rndO d.neg d.V d.e more dir).1, (rndO d.neg d.V d.e more dir).2, 0) := by
  unfold toR chk
  rw [if_pos hd, h]
  simp only
  rw [if_neg (fun h0 => hV h0.1)]
  simp only
  rw [if_neg hV]
theorem toR_zero {g : Bool} {V : Nat} {e : Int} {dir : Int} {d : Dy} (hd : 0 ≤ dir ∧ dir ≤ 3) (h : mk g V e = some d) (hV : d.V = 0) : toR g V e false dir = (0, 0, 0) := by
  unfold toR chk
  rw [if_pos hd, h]
  simp only
  rw [if_neg (fun h0 => by cases h0.2)]
  simp only
  rw [if_pos hV]
/-- No error: the dyad can be bare. -/
theorem toR_ok {g : Bool} {V : Nat} {e : Int} {more : Bool} {dir : Int} {x f : Nat} (h : toR g V e more dir = (x, f, 0)) :
    ∃ d, mk g V e = some d ∧ (0 ≤ dir ∧ dir ≤ 3) ∧ ((d.V = 0 ∧ x = 0 ∧ f = 0) ∨ (d.V ≠ 0 ∧ rndO d.neg d.V d.e more dir = (x, f))) := by
  unfold toR at h
  cases hc : chk (mk g V e) more dir with
  | none => rw [hc] at h; simp at h
  | some d =>
    rw [hc] at h
    simp only at h
    unfold chk at hc
    split at hc
    · rename_i hd
      split at hc
      · cases hc
      · rename_i d' hd'
        split at hc
        · cases hc
        · obtain rfl := Option.some.inj hc
          refine ⟨d', hd', hd, ?_⟩
          by_cases h0 : d'.V = 0
          · rw [if_pos h0] at h
            obtain ⟨h1, h2⟩ := Prod.mk.inj h
            exact Or.inl ⟨h0, h1.symm, (Prod.mk.inj h2).1.symm⟩
          · rw [if_neg h0] at h
            obtain ⟨h1, h2⟩ := Prod.mk.inj h
            exact Or.inr ⟨h0, Prod.ext h1 (Prod.mk.inj h2).1⟩
    · cases hc

/-- The size of what comes out. -/
noncomputable def magS (g : Bool) (S : Nat) (dir : Int) (X : Nat) : Nat := if X = 9218868437227405312 then overM g dir else upX g dir X (hS S X) (bS S X || false)
theorem upX_inf {g : Bool} {dir : Int} {X : Nat} {h b : Bool} (hX : X ≠ 9218868437227405312) (hu : upX g dir X h b = 9218868437227405312) : overM g dir = 9218868437227405312 := by
  unfold upX at hu
  unfold overM
  cases ha : awy g dir (decide (X % 2 = 1)) h b with
  | false => rw [ha] at hu; exact absurd hu hX
  | true => rw [awy_all ha, if_pos rfl]
theorem rndS_mag (g : Bool) (S : Nat) (dir : Int) (X : Nat) : (rndS g S false dir X).1 = sgn g (magS g S dir X) := by
  unfold rndS magS
  by_cases h : X = 9218868437227405312
  · rw [if_pos h, if_pos h]; rfl
  · rw [if_neg h, if_neg h]
    unfold rfin
    by_cases hu : upX g dir X (hS S X) (bS S X || false) = 9218868437227405312
    · rw [if_pos hu, hu]
      show sgn g (overM g dir) = _
      rw [upX_inf h hu]
    · rw [if_neg hu]
theorem awy_none {g : Bool} {dir : Int} {o h b : Bool} (h0 : awy g dir true true true = false) : awy g dir o h b = false := by
  cases ha : awy g dir o h b with
  | false => rfl
  | true => rw [awy_all ha] at h0; cases h0
theorem overM_le (g : Bool) (dir : Int) : overM g dir ≤ 9218868437227405312 := by unfold overM; split <;> omega
theorem upX_le {g : Bool} {dir : Int} {X : Nat} {h b : Bool} : X ≤ upX g dir X h b ∧ upX g dir X h b ≤ X + 1 := by
  unfold upX; cases awy g dir (decide (X % 2 = 1)) h b <;> simp
theorem magS_le {g : Bool} {S : Nat} {dir : Int} {X : Nat} (hX : X ≤ 9218868437227405312) : magS g S dir X ≤ 9218868437227405312 := by
  unfold magS
  split
  · exact overM_le g dir
  · have := (upX_le (g := g) (dir := dir) (X := X) (h := hS S X) (b := (bS S X || false))).2
    omega
theorem magS_mono {g : Bool} {S T : Nat} {dir : Int} {X Y : Nat} (hX : IsLow S X) (hY : IsLow T Y) (h : S ≤ T) : magS g S dir X ≤ magS g T dir Y := by
  have hXY := hX.mono hY h
  have hYi := hY.1
  by_cases hYI : Y = 9218868437227405312
  · have e2 : magS g T dir Y = overM g dir := by unfold magS; rw [if_pos hYI]
    rw [e2]
    by_cases hXI : X = 9218868437227405312
    · have e1 : magS g S dir X = overM g dir := by unfold magS; rw [if_pos hXI]
      rw [e1]; exact Nat.le_refl _
    · cases ha : awy g dir true true true with
      | true =>
        have e3 : overM g dir = 9218868437227405312 := by unfold overM; rw [ha, if_pos rfl]
        rw [e3]; exact magS_le hX.1
      | false =>
        have e3 : overM g dir = 9218868437227405311 := by unfold overM; rw [ha]; rfl
        have e1 : magS g S dir X = X := by unfold magS upX; rw [if_neg hXI, awy_none ha]; rfl
        rw [e3, e1]; omega
  · have hXI : X ≠ 9218868437227405312 := by omega
    unfold magS
    rw [if_neg hYI, if_neg hXI]
    rcases Nat.lt_or_ge X Y with hlt | hge
    · have h1 := (upX_le (g := g) (dir := dir) (X := X) (h := hS S X) (b := (bS S X || false))).2
      have h2 := (upX_le (g := g) (dir := dir) (X := Y) (h := hS T Y) (b := (bS T Y || false))).1
      omega
    · obtain rfl : X = Y := by omega
      have l1 := hX.2.1
      have l2 := hX.2.2 (by omega)
      have hlt := vX_lt (X := X) (by omega)
      unfold upX
      apply Nat.add_le_add_left
      cases ha : awy g dir (decide (X % 2 = 1)) (hS S X) (bS S X || false) with
      | false => exact Nat.zero_le _
      | true =>
        have key : awy g dir (decide (X % 2 = 1)) (hS T X) (bS T X || false) = true := by
          rw [Bool.or_false] at ha ⊢
          generalize decide (X % 2 = 1) = od at ha ⊢
          have hb : hS S X = true → hS T X = true := fun h1 => by
            have := of_decide_eq_true h1
            exact decide_eq_true (by omega)
          have hbb : hS S X = true → bS S X = true → bS T X = true := fun h1 h2 => by
            have k1 := of_decide_eq_true h1
            have k2 := of_decide_eq_true h2
            exact decide_eq_true (by omega)
          have hor : (hS S X || bS S X) = true → (hS T X || bS T X) = true := fun h1 => by
            rcases Bool.or_eq_true _ _ ▸ h1 with h2 | h2
            · rw [hb h2]; rfl
            · have k2 := of_decide_eq_true h2
              by_cases k3 : vX X + vX (X + 1) ≤ 2 * T
              · rw [show hS T X = true from decide_eq_true k3]; rfl
              · rw [show bS T X = true from decide_eq_true (by omega)]; simp
          unfold awy at ha ⊢
          split
          · rename_i h0
            rw [if_pos h0] at ha
            rw [Bool.and_eq_true] at ha ⊢
            refine ⟨hb ha.1, ?_⟩
            rw [Bool.or_eq_true] at ha ⊢
            rcases ha.2 with h2 | h2
            · exact Or.inl (hbb ha.1 h2)
            · exact Or.inr h2
          · rename_i h0
            rw [if_neg h0] at ha
            split
            · rename_i h1
              rw [if_pos h1] at ha
              rw [Bool.and_eq_true] at ha ⊢
              exact ⟨ha.1, hor ha.2⟩
            · rename_i h1
              rw [if_neg h1] at ha
              split
              · rename_i h2
                rw [if_pos h2] at ha
                rw [Bool.and_eq_true] at ha ⊢
                exact ⟨ha.1, hor ha.2⟩
              · rename_i h2
                rw [if_neg h2] at ha
                exact ha
        rw [key]
        exact Nat.le_refl _

/-- Bits as numbers in their order. -/
def rv (x : Nat) : Int := if fng x then -((x % 9223372036854775808 : Nat) : Int) else (x : Int)
theorem rv_sgn {g : Bool} {Y : Nat} (h : Y ≤ 9218868437227405312) : rv (sgn g Y) = if g then -(Y : Int) else (Y : Int) := by
  cases g with
  | false =>
    have e : sgn false Y = Y := by unfold sgn; simp
    rw [e]
    unfold rv fng
    rw [decide_eq_false (by omega)]
    rfl
  | true =>
    have e : sgn true Y = 9223372036854775808 + Y := rfl
    rw [e]
    unfold rv fng
    rw [decide_eq_true (by omega)]
    simp only [↓reduceIte]
    omega
theorem rnd_rv {d : Dy} (hf : Fine d) (hV : d.V ≠ 0) (dir : Int) : rv (rndO d.neg d.V d.e false dir).1 = if d.neg then -((magS d.neg (sz d.V d.e) dir (lowX d.V d.e) : Nat) : Int) else ((magS d.neg (sz d.V d.e) dir (lowX d.V d.e) : Nat) : Int) := by
  have hl := low_is hV hf.1 hf.2.1
  rw [rndO_S d.neg false dir hV hf.1 hf.2.1 hl, rndS_mag, rv_sgn (magS_le hl.1)]
theorem rv_zero : rv 0 = 0 := by decide
/-- Rounding keeps order. -/
theorem r_mono {g k : Bool} {V U : Nat} {e e' dir : Int} {x f y f' : Nat} (h1 : toR g V e false dir = (x, f, 0)) (h2 : toR k U e' false dir = (y, f', 0)) (h : dw g V e ≤ dw k U e') : rv x ≤ rv y := by
  obtain ⟨d, m1, hd, c1⟩ := toR_ok h1
  obtain ⟨d', m2, _, c2⟩ := toR_ok h2
  obtain ⟨f1, w1, _, _⟩ := mk_fine m1
  obtain ⟨f2, w2, _, _⟩ := mk_fine m2
  rw [← w1, ← w2] at h
  have r1 : (d.V = 0 ∧ rv x = 0) ∨ (d.V ≠ 0 ∧ rv x = if d.neg then -((magS d.neg (sz d.V d.e) dir (lowX d.V d.e) : Nat) : Int) else ((magS d.neg (sz d.V d.e) dir (lowX d.V d.e) : Nat) : Int)) := by
    rcases c1 with ⟨a, b, _⟩ | ⟨a, b⟩
    · exact Or.inl ⟨a, by rw [b]; exact rv_zero⟩
    · have := rnd_rv f1 a dir
      rw [b] at this
      exact Or.inr ⟨a, this⟩
  have r2 : (d'.V = 0 ∧ rv y = 0) ∨ (d'.V ≠ 0 ∧ rv y = if d'.neg then -((magS d'.neg (sz d'.V d'.e) dir (lowX d'.V d'.e) : Nat) : Int) else ((magS d'.neg (sz d'.V d'.e) dir (lowX d'.V d'.e) : Nat) : Int)) := by
    rcases c2 with ⟨a, b, _⟩ | ⟨a, b⟩
    · exact Or.inl ⟨a, by rw [b]; exact rv_zero⟩
    · have := rnd_rv f2 a dir
      rw [b] at this
      exact Or.inr ⟨a, this⟩
  obtain ⟨dg, dV, dE⟩ := d
  obtain ⟨kg, kV, kE⟩ := d'
  simp only at *
  unfold dw at h
  have p1 : dV ≠ 0 → 0 < sz dV dE := fun h => sz_pos dE h
  have p2 : kV ≠ 0 → 0 < sz kV kE := fun h => sz_pos kE h
  have z1 : dV = 0 → sz dV dE = 0 := fun h => by rw [h, sz_zero]
  have z2 : kV = 0 → sz kV kE = 0 := fun h => by rw [h, sz_zero]
  have L1 : dV ≠ 0 → IsLow (sz dV dE) (lowX dV dE) := fun h => low_is h f1.1 f1.2.1
  have L2 : kV ≠ 0 → IsLow (sz kV kE) (lowX kV kE) := fun h => low_is h f2.1 f2.2.1
  have M1 : ∀ b : Bool, dV ≠ 0 → kV ≠ 0 → sz dV dE ≤ sz kV kE → magS b (sz dV dE) dir (lowX dV dE) ≤ magS b (sz kV kE) dir (lowX kV kE) := fun b a c l => magS_mono (L1 a) (L2 c) l
  have M2 : ∀ b : Bool, dV ≠ 0 → kV ≠ 0 → sz kV kE ≤ sz dV dE → magS b (sz kV kE) dir (lowX kV kE) ≤ magS b (sz dV dE) dir (lowX dV dE) := fun b a c l => magS_mono (L2 c) (L1 a) l
  generalize sz dV dE = S1 at *
  generalize sz kV kE = S2 at *
  clear L1 L2 c1 c2 m1 m2 w1 w2 f1 f2 h1 h2
  rcases r1 with ⟨a1, b1⟩ | ⟨a1, b1⟩ <;> rcases r2 with ⟨a2, b2⟩ | ⟨a2, b2⟩
  · omega
  · have := p2 a2
    have := z1 a1
    rw [b1, b2]
    cases kg <;> cases dg <;> simp only [Bool.false_eq_true, ↓reduceIte] at h ⊢ <;> omega
  · have := p1 a1
    have := z2 a2
    rw [b1, b2]
    cases kg <;> cases dg <;> simp only [Bool.false_eq_true, ↓reduceIte] at h ⊢ <;> omega
  · have := p1 a1
    have := p2 a2
    rw [b1, b2]
    cases kg <;> cases dg <;> simp only [Bool.false_eq_true, ↓reduceIte] at h ⊢
    · have := M1 false a1 a2 (by omega); omega
    · omega
    · omega
    · have := M2 true a1 a2 (by omega); omega

/-- Up and Down are each other's mirror. -/
def mir (dir : Int) : Int := if dir = 2 then 3 else if dir = 3 then 2 else dir
theorem mir_bd {dir : Int} (h : 0 ≤ dir ∧ dir ≤ 3) : 0 ≤ mir dir ∧ mir dir ≤ 3 := by unfold mir; split; decide; split; decide; exact h
theorem awy_mir (g : Bool) (dir : Int) (o h b : Bool) : awy (!g) (mir dir) o h b = awy g dir o h b := by
  unfold awy mir
  by_cases h2 : dir = 2
  · subst h2; cases g <;> rfl
  · by_cases h3 : dir = 3
    · subst h3; cases g <;> rfl
    · rw [if_neg h2, if_neg h3, if_neg h2, if_neg h3]
      split <;> rfl
theorem rnd_mir (g : Bool) {V : Nat} {e : Int} (more : Bool) (dir : Int) (hV : V ≠ 0) (h1 : -1073741824 ≤ e) (h2 : e ≤ 1073741824) : ∃ Y F, Y ≤ 9218868437227405312 ∧ rndO g V e more dir = (sgn g Y, F) ∧ rndO (!g) V e more (mir dir) = (sgn (!g) Y, F) := by
  have ho : overM (!g) (mir dir) = overM g dir := by unfold overM; rw [awy_mir]
  have hu : ∀ X h b, upX (!g) (mir dir) X h b = upX g dir X h b := fun X h b => by unfold upX; rw [awy_mir]
  unfold rndO
  by_cases ht : 1023 < rtop V e
  · rw [if_pos ht, if_pos ht]
    exact ⟨overM g dir, 5, overM_le g dir, rfl, by unfold overO; rw [ho]⟩
  · have hX := (rnd_low hV h1 h2 (by omega)).1
    rw [if_neg ht, if_neg ht]
    unfold rfin
    rw [hu]
    have hle := (upX_le (g := g) (dir := dir) (X := rX V e) (h := rH V e (ru V e)) (b := (rB V e (ru V e) || more))).2
    generalize upX g dir (rX V e) (rH V e (ru V e)) (rB V e (ru V e) || more) = Y at *
    by_cases hY : Y = 9218868437227405312
    · rw [if_pos hY, if_pos hY]
      exact ⟨overM g dir, 5, overM_le g dir, rfl, by unfold overO; rw [ho]⟩
    · rw [if_neg hY, if_neg hY]
      exact ⟨Y, _, by omega, rfl, rfl⟩
theorem xor_sign (Y : Nat) (hY : Y < 9223372036854775808) : (9223372036854775808 + Y) ^^^ Y = 9223372036854775808 := by
  have h : 9223372036854775808 + Y = 9223372036854775808 ^^^ Y := by
    rw [show 9223372036854775808 + Y = 9223372036854775808 ||| Y from Nat.shiftLeft_add_eq_or_of_lt (i := 63) (b := Y) (show Y < 2 ^ 63 from hY) 1]
    apply Nat.eq_of_testBit_eq
    intro i
    rw [Nat.testBit_or, Nat.testBit_xor]
    by_cases hi : i = 63
    · subst hi
      rw [Nat.testBit_lt_two_pow (x := Y) (i := 63) hY]
      simp
    · have : Nat.testBit 9223372036854775808 i = false := by
        rw [show (9223372036854775808 : Nat) = 2 ^ 63 from by decide, Nat.testBit_two_pow]
        exact decide_eq_false (by omega)
      rw [this]; simp
  rw [h, Nat.xor_assoc, Nat.xor_self, Nat.xor_zero]
/-- The mirrored number is rounded to the mirrored bits. -/
theorem r_mirror {g : Bool} {V : Nat} {e dir : Int} {x f : Nat} {b : Dy} (h : toR g V e false dir = (x, f, 0)) (hb : mk (!g) V e = some b) :
    ∃ z, toR b.neg b.V b.e false (mir dir) = (z, f, 0) ∧ x < 18446744073709551616 ∧ z < 18446744073709551616 ∧ ((x ≠ 0 ∧ x ^^^ z = 9223372036854775808) ∨ (x = 0 ∧ (z = 0 ∨ z = 9223372036854775808))) := by
  obtain ⟨d, hd, hdir, c⟩ := toR_ok h
  have hb' := mk_self hb
  have hm := mir_bd hdir
  have hfd := mk_fine hd
  have hfb := mk_fine hb
  by_cases hV : V = 0
  · have z1 : d.V = 0 := hfd.2.2.1.2 hV
    have z2 : b.V = 0 := hfb.2.2.1.2 hV
    rcases c with ⟨_, rfl, rfl⟩ | ⟨c1, _⟩
    · exact ⟨0, toR_zero hm hb' z2, by decide, by decide, Or.inr ⟨rfl, Or.inl rfl⟩⟩
    · exact absurd z1 c1
  · obtain ⟨d1, d2, d3⟩ := mk_pos hd hV
    obtain ⟨b1, b2, b3⟩ := mk_pos hb hV
    have hdb : d.V = b.V ∧ d.e = b.e := by
      have e1 := mk_is hd
      have e2 := mk_is hb
      rw [nO_pos _ _ hV] at e1 e2
      rw [← e1, ← e2]
      exact ⟨rfl, rfl⟩
    rcases c with ⟨c1, _, _⟩ | ⟨_, c2⟩
    · exact absurd c1 d2
    · obtain ⟨Y, F, hY, r1, r2⟩ := rnd_mir g (V := b.V) (e := b.e) false dir b2 hfb.1.1 hfb.1.2.1
      rw [d1, hdb.1, hdb.2, r1] at c2
      obtain ⟨rfl, rfl⟩ := Prod.mk.inj c2
      rw [← b1] at r2
      refine ⟨sgn b.neg Y, ?_, ?_, ?_, ?_⟩
      · rw [toR_some hm hb' b2, r2]
      · unfold sgn; split <;> omega
      · unfold sgn; split <;> omega
      · rw [b1]
        cases g with
        | false =>
          have e1 : sgn false Y = Y := by unfold sgn; simp
          have e2 : sgn (!false) Y = 9223372036854775808 + Y := rfl
          rw [e1, e2]
          by_cases h0 : Y = 0
          · exact Or.inr ⟨h0, Or.inr (by omega)⟩
          · exact Or.inl ⟨h0, by rw [Nat.xor_comm]; exact xor_sign Y (by omega)⟩
        | true =>
          have e1 : sgn (!true) Y = Y := by unfold sgn; simp
          have e2 : sgn true Y = 9223372036854775808 + Y := rfl
          rw [e1, e2]
          exact Or.inl ⟨by omega, xor_sign Y (by omega)⟩

/-- What bits are worth stays. -/
theorem fO_size {b : Nat} (hf : Fnt b) : sz (fO b).V (fO b).e = vX (b % 9223372036854775808) := by
  have h1 := sz_told (mk_fin hf)
  have h2 : sz (fO b).V (fO b).e = sz (fm b) (fe b) := by
    have : ((sz (fO b).V (fO b).e : Nat) : Int) = (sz (fm b) (fe b) : Int) := h1
    omega
  rw [h2]
  obtain ⟨p1, p2, p3, p4⟩ := f_parts b
  have h3 := vX_parts (L := fE b) (U := fm b) (X := b % 9223372036854775808) p1 (by omega) p3 (p4 hf)
  rw [h3, sz]
  congr 2
  have h4 := sh_held (fe b)
  rw [fe_held hf] at h4
  have h5 : fe b = (fE b : Int) - 1074 := rfl
  have h6 := kb_eq
  omega
theorem r_fix {b : Nat} {dir : Int} (hb : b < 18446744073709551616) (hf : Fnt b) (hd : 0 ≤ dir ∧ dir ≤ 3) :
    ∃ c, toR (fO b).neg (fO b).V (fO b).e false dir = (c, 0, 0) ∧ c < 18446744073709551616 ∧ (c = b ∨ (b = 9223372036854775808 ∧ c = 0)) := by
  have hmk := mk_self (mk_fin hf)
  have hfin := (mk_fine hmk).1
  by_cases h0 : fm b = 0
  · rw [fO_zero h0] at hmk ⊢
    refine ⟨0, toR_zero hd hmk rfl, by decide, ?_⟩
    have hs := f_sign hb
    have hp := (f_parts b).1
    have hp3 := (f_parts b).2.2.1
    rw [h0] at hp hp3
    have : fE b = 0 := by
      rcases Nat.eq_zero_or_pos (fE b) with h | h
      · exact h
      · have := hp3 h; omega
    rw [this] at hp
    by_cases hn : fng b = true
    · rw [hn, if_pos rfl] at hs
      exact Or.inr ⟨by omega, rfl⟩
    · rw [if_neg hn] at hs
      exact Or.inl (by omega)
  · obtain ⟨k1, k2, _⟩ := mk_pos (mk_fin hf) h0
    have hX : b % 9223372036854775808 < 9218868437227405312 := by
      have h9 : fex b ≠ 2047 := hf
      have := fex_lt b
      unfold fex at *
      omega
    have hlt := vX_lt hX
    have hL : IsLow (sz (fO b).V (fO b).e) (b % 9223372036854775808) := by
      rw [fO_size hf]
      exact ⟨by omega, Nat.le_refl _, fun _ => hlt⟩
    have hr := rndO_S (fO b).neg false dir k2 hfin.1 hfin.2.1 hL
    rw [fO_size hf] at hr
    have hh : hS (vX (b % 9223372036854775808)) (b % 9223372036854775808) = false := decide_eq_false (by omega)
    have hbb : bS (vX (b % 9223372036854775808)) (b % 9223372036854775808) = false := decide_eq_false (by omega)
    have hr2 : rndO (fO b).neg (fO b).V (fO b).e false dir = (b, 0) := by
      rw [hr, rndS, if_neg (by omega), hh, hbb, rfin, upX]
      show (if b % 9223372036854775808 + (awy (fO b).neg dir _ false false).toNat = 9218868437227405312 then _ else (sgn (fO b).neg (b % 9223372036854775808 + (awy (fO b).neg dir _ false false).toNat), fl false false _)) = _
      rw [awy_exact]
      show (if b % 9223372036854775808 + 0 = 9218868437227405312 then _ else (sgn (fO b).neg (b % 9223372036854775808 + 0), 0)) = _
      rw [if_neg (by omega), Nat.add_zero, k1]
      have hs := f_sign hb
      unfold sgn
      rw [← hs]
    exact ⟨b, by rw [toR_some hd hmk k2, hr2], hb, Or.inl rfl⟩
end Go.Proofs.YtnkbdjbcfkflpaaDoor
