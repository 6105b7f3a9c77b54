/- DyMath, DyMem, DyMake, DyCmp, DyOrd, DyBoth, DyDown, DyAdd, DyMul, DyOpen, FlMath, FlBits, FlParts, FlExact, FlAlive, FlRef, FlNum, FlTo: joined. -/
import Derived.Test.YtafgooiakmmfkaaDoorK1
import Derived.Deep.RegionHeld3
import Derived.Lib.SmallJoins
import Derived.Deep.Cut
/- Dyads as numbers: what one is worth (times 2^(2^31)), and what Make, Add and Mul tell. -/
namespace Go.Proofs.YtafgooiakmmfkaaDoor

/-- An exponent within 2^31. -/
def held (e : Int) : Int := min (max e (-2147483648)) 2147483648
theorem held_bd (e : Int) : -2147483648 ≤ held e ∧ held e ≤ 2147483648 := by unfold held; omega
theorem held_id {e : Int} (h1 : -1073741824 ≤ e) (h2 : e ≤ 1073741824) : held e = e := by unfold held; omega
/-- .. counted from -2^31. -/
def sh (e : Int) : Nat := (held e + 2147483648).toNat
theorem sh_held (e : Int) : (sh e : Int) = held e + 2147483648 := by have := held_bd e; unfold sh; omega
theorem sh_add {e f : Int} {k : Nat} (h : held f = held e + k) : sh f = sh e + k := by
  have h1 := sh_held e
  have h2 := sh_held f
  omega

/-- The size. -/
def sz (V : Nat) (e : Int) : Nat := V * 2 ^ sh e
/-- The worth. -/
def dw (g : Bool) (V : Nat) (e : Int) : Int := if g then -(sz V e : Int) else (sz V e : Int)
theorem sz_zero (e : Int) : sz 0 e = 0 := by simp [sz]
theorem sz_pos {V : Nat} (e : Int) (h : V ≠ 0) : 0 < sz V e := Nat.mul_pos (Nat.pos_of_ne_zero h) (Nat.two_pow_pos _)
theorem dw_zero (g : Bool) (e : Int) : dw g 0 e = 0 := by cases g <;> simp [dw, sz_zero]
theorem dw_neg (g : Bool) (V : Nat) (e : Int) : dw (!g) V e = - dw g V e := by cases g <;> simp [dw]
/-- A shift up, the exponent down. -/
theorem sz_shift {V k : Nat} {e f : Int} (h : held f = held e + k) : sz V f = sz (V * 2 ^ k) e := by
  unfold sz
  rw [sh_add h, Nat.pow_add, Nat.mul_assoc, Nat.mul_comm (2 ^ k)]
theorem dw_shift {V k : Nat} {e f : Int} (g : Bool) (h : held f = held e + k) : dw g V f = dw g (V * 2 ^ k) e := by
  unfold dw; rw [sz_shift h]

structure Dy where
  neg : Bool
  V : Nat
  e : Int

def toldD (g : Bool) (V : Nat) (e : Int) : Option Dy :=
  if V = 0 then some ⟨false, 0, 0⟩ else if e < -1073741824 ∨ 1073741824 < e then none else some ⟨g, V, e⟩
def mk (g : Bool) (V : Nat) (e : Int) : Option Dy := toldD g (V / 2 ^ low V) (held e + low V)

theorem toldD_zero (g : Bool) (e : Int) : toldD g 0 e = some ⟨false, 0, 0⟩ := rfl
/-- What is told: its exponent is small, it is worth what it was to be, it is no longer. -/
def Fine (d : Dy) : Prop := -1073741824 ≤ d.e ∧ d.e ≤ 1073741824 ∧ (d.V = 0 → d.neg = false ∧ d.e = 0)
theorem toldD_fine {g : Bool} {V : Nat} {e : Int} {d : Dy} (h : toldD g V e = some d) : Fine d ∧ d.V = V ∧ (V ≠ 0 → d.neg = g ∧ d.e = e) := by
  unfold toldD at h
  split at h
  · rename_i h0
    obtain rfl := Option.some.inj h
    exact ⟨⟨by decide, by decide, fun _ => ⟨rfl, rfl⟩⟩, h0.symm, fun h => absurd h0 h⟩
  · split at h
    · cases h
    · rename_i h0 h1
      obtain rfl := Option.some.inj h
      exact ⟨⟨by show -1073741824 ≤ e; omega, by show e ≤ 1073741824; omega, fun h => absurd h h0⟩, rfl, fun _ => ⟨rfl, rfl⟩⟩
theorem Fine.held {d : Dy} (h : Fine d) : held d.e = d.e := held_id h.1 h.2.1

theorem odd_part (V : Nat) : V / 2 ^ low V * 2 ^ low V = V := by
  rcases Nat.eq_zero_or_pos V with h | h
  · rw [h]; simp
  · obtain ⟨m, hm⟩ := low_spec h
    have h2 := Nat.two_pow_pos (low V)
    generalize low V = l at hm h2
    rw [hm, Nat.mul_comm, Nat.mul_div_cancel_left _ h2]
theorem odd_part_zero {V : Nat} : V / 2 ^ low V = 0 ↔ V = 0 := by
  have := odd_part V
  constructor
  · intro h; rw [h, Nat.zero_mul] at this; exact this.symm
  · intro h; rw [h]; simp

theorem mk_fine {g : Bool} {V : Nat} {e : Int} {d : Dy} (h : mk g V e = some d) : Fine d ∧ dw d.neg d.V d.e = dw g V e ∧ (d.V = 0 ↔ V = 0) ∧ d.V ≤ V := by
  obtain ⟨h1, h2, h3⟩ := toldD_fine h
  refine ⟨h1, ?_, by rw [h2]; exact odd_part_zero, by rw [h2]; exact Nat.div_le_self _ _⟩
  by_cases h0 : V = 0
  · have : d.V = 0 := by rw [h2]; exact odd_part_zero.2 h0
    rw [this, h0, dw_zero, dw_zero]
  · obtain ⟨h4, h5⟩ := h3 (fun h => h0 (odd_part_zero.1 h))
    have h6 := dw_shift (V := d.V) (k := low V) (e := e) (f := d.e) d.neg (by rw [h1.held, h5])
    rw [h6, h4, h2, odd_part]
theorem mk_turn {g : Bool} {V : Nat} {e : Int} {d : Dy} (h : mk g V e = some d) : ∃ d', mk (!g) V e = some d' := by
  unfold mk toldD at h ⊢
  split at h
  · rename_i h0; rw [if_pos h0]; exact ⟨_, rfl⟩
  · rename_i h0
    rw [if_neg h0]
    split at h
    · cases h
    · rename_i h1; rw [if_neg h1]; exact ⟨_, rfl⟩

/-- The sum of two bare ones. -/
def addB (a b : Dy) : Option Dy :=
  if a.V = 0 then some b else if b.V = 0 then some a else
  if 65535 < max ((blen a.V : Int) - 1 + a.e) ((blen b.V : Int) - 1 + b.e) - min a.e b.e then none else
  if a.neg = b.neg then mk a.neg (a.V * 2 ^ (a.e - min a.e b.e).toNat + b.V * 2 ^ (b.e - min a.e b.e).toNat) (min a.e b.e) else
  if a.V * 2 ^ (a.e - min a.e b.e).toNat < b.V * 2 ^ (b.e - min a.e b.e).toNat then mk b.neg (b.V * 2 ^ (b.e - min a.e b.e).toNat - a.V * 2 ^ (a.e - min a.e b.e).toNat) (min a.e b.e)
  else mk a.neg (a.V * 2 ^ (a.e - min a.e b.e).toNat - b.V * 2 ^ (b.e - min a.e b.e).toNat) (min a.e b.e)
def addO : Option Dy → Option Dy → Option Dy
  | some a, some b => addB a b
  | _, _ => none

theorem mk_nought (g h : Bool) (e : Int) : mk g 0 e = mk h 0 e := rfl
theorem addB_comm {a b : Dy} (ha : Fine a) (hb : Fine b) : addB a b = addB b a := by
  unfold addB
  by_cases h1 : a.V = 0
  · rw [if_pos h1]
    by_cases h2 : b.V = 0
    · rw [if_pos h2]
      obtain ⟨g1, v1, e1⟩ := a
      obtain ⟨g2, v2, e2⟩ := b
      obtain ⟨rfl, rfl⟩ := ha.2.2 h1
      obtain ⟨rfl, rfl⟩ := hb.2.2 h2
      simp only at h1 h2
      rw [h1, h2]
    · rw [if_neg h2, if_pos h1]
  · rw [if_neg h1]
    by_cases h2 : b.V = 0
    · rw [if_pos h2, if_pos h2]
    · rw [if_neg h2, if_neg h2, if_neg h1, Int.min_comm b.e a.e, Int.max_comm ((blen b.V : Int) - 1 + b.e)]
      generalize a.V * 2 ^ (a.e - min a.e b.e).toNat = x
      generalize b.V * 2 ^ (b.e - min a.e b.e).toNat = y
      by_cases h3 : 65535 < max ((blen a.V : Int) - 1 + a.e) ((blen b.V : Int) - 1 + b.e) - min a.e b.e
      · rw [if_pos h3, if_pos h3]
      · rw [if_neg h3, if_neg h3]
        by_cases h4 : a.neg = b.neg
        · rw [if_pos h4, if_pos h4.symm, h4, Nat.add_comm]
        · rw [if_neg h4, if_neg (show ¬ b.neg = a.neg from fun h => h4 h.symm)]
          rcases Nat.lt_trichotomy x y with h5 | h5 | h5
          · rw [if_pos h5, if_neg (by omega)]
          · subst h5
            rw [if_neg (Nat.lt_irrefl _), if_neg (Nat.lt_irrefl _), Nat.sub_self]; rfl
          · rw [if_neg (by omega), if_pos h5]
theorem addO_comm {g h : Bool} {V U : Nat} {e f : Int} : addO (mk g V e) (mk h U f) = addO (mk h U f) (mk g V e) := by
  cases h1 : mk g V e with
  | none => cases mk h U f <;> rfl
  | some a => cases h2 : mk h U f with
    | none => rfl
    | some b => exact addB_comm (mk_fine h1).1 (mk_fine h2).1

theorem dw_same (g : Bool) (x y : Nat) (e : Int) : dw g (x + y) e = dw g x e + dw g y e := by
  have : sz (x + y) e = sz x e + sz y e := by unfold sz; rw [Nat.add_mul]
  unfold dw
  cases g <;> simp only [this] <;> simp <;> omega
theorem dw_less (g h : Bool) (x y : Nat) (e : Int) (hg : g ≠ h) (hle : y ≤ x) : dw g (x - y) e = dw g x e + dw h y e := by
  obtain ⟨d, rfl⟩ : ∃ d, x = y + d := ⟨x - y, by omega⟩
  obtain rfl : h = !g := by cases g <;> cases h <;> simp_all
  rw [Nat.add_sub_cancel_left, dw_same, dw_neg]; omega

theorem addB_fine {a b d : Dy} (ha : Fine a) (hb : Fine b) (h : addB a b = some d) : Fine d ∧ dw d.neg d.V d.e = dw a.neg a.V a.e + dw b.neg b.V b.e := by
  unfold addB at h
  by_cases h1 : a.V = 0
  · rw [if_pos h1] at h
    obtain rfl := Option.some.inj h
    rw [h1, dw_zero]
    exact ⟨hb, by omega⟩
  · rw [if_neg h1] at h
    by_cases h2 : b.V = 0
    · rw [if_pos h2] at h
      obtain rfl := Option.some.inj h
      rw [h2, dw_zero]
      exact ⟨ha, by omega⟩
    · rw [if_neg h2] at h
      obtain ⟨l, hl⟩ : ∃ l, min a.e b.e = l := ⟨_, rfl⟩
      have hlh : held l = l := by have := ha.1; have := ha.2.1; have := hb.1; have := hb.2.1; exact held_id (by omega) (by omega)
      have ea := dw_shift (V := a.V) (k := (a.e - l).toNat) (e := l) (f := a.e) a.neg (by rw [hlh, ha.held]; omega)
      have eb := dw_shift (V := b.V) (k := (b.e - l).toNat) (e := l) (f := b.e) b.neg (by rw [hlh, hb.held]; omega)
      rw [ea, eb]
      rw [hl] at h
      generalize a.V * 2 ^ (a.e - l).toNat = x at h ⊢
      generalize b.V * 2 ^ (b.e - l).toNat = y at h ⊢
      clear ea eb
      split at h
      · cases h
      · split at h
        · rename_i h4
          obtain ⟨k1, k2, _, _⟩ := mk_fine h
          exact ⟨k1, by rw [k2, dw_same, h4]⟩
        · split at h
          · rename_i h4 h5
            obtain ⟨k1, k2, _, _⟩ := mk_fine h
            exact ⟨k1, by rw [k2, dw_less b.neg a.neg y x l (fun h => h4 h.symm) (by omega)]; omega⟩
          · rename_i h4 h5
            obtain ⟨k1, k2, _, _⟩ := mk_fine h
            exact ⟨k1, by rw [k2, dw_less a.neg b.neg x y l h4 (by omega)]⟩
theorem addO_fine {g h : Bool} {V U : Nat} {e f : Int} {d : Dy} (k : addO (mk g V e) (mk h U f) = some d) : Fine d ∧ dw d.neg d.V d.e = dw g V e + dw h U f := by
  cases h1 : mk g V e with
  | none => rw [h1] at k; cases mk h U f <;> cases k
  | some a => cases h2 : mk h U f with
    | none => rw [h1, h2] at k; cases k
    | some b =>
      rw [h1, h2] at k
      obtain ⟨a1, a2, _, _⟩ := mk_fine h1
      obtain ⟨b1, b2, _, _⟩ := mk_fine h2
      obtain ⟨c1, c2⟩ := addB_fine a1 b1 k
      exact ⟨c1, by rw [c2, a2, b2]⟩
theorem addO_some {g h : Bool} {V U : Nat} {e f : Int} {d : Dy} (k : addO (mk g V e) (mk h U f) = some d) : (∃ a, mk g V e = some a) ∧ ∃ b, mk h U f = some b := by
  cases h1 : mk g V e with
  | none => rw [h1] at k; cases mk h U f <;> cases k
  | some a => cases h2 : mk h U f with
    | none => rw [h1, h2] at k; cases k
    | some b => exact ⟨⟨_, rfl⟩, ⟨_, rfl⟩⟩

/-- The product of two bare ones. -/
def mulB (a b : Dy) : Option Dy :=
  if a.V ≠ 0 ∧ b.V ≠ 0 ∧ 65536 < blen a.V + blen b.V then none else toldD (a.neg != b.neg) (a.V * b.V) (a.e + b.e)
def mulO : Option Dy → Option Dy → Option Dy
  | some a, some b => mulB a b
  | _, _ => none
theorem sz_mul {V U : Nat} {e f h : Int} (hh : held h = held e + held f) : sz (V * U) h * 2 ^ sh 0 = sz V e * sz U f := by
  have h1 := sh_held e
  have h2 := sh_held f
  have h3 := sh_held h
  have h4 := sh_held 0
  have h5 : held 0 = 0 := by decide
  have h6 : sh h + sh 0 = sh e + sh f := by omega
  unfold sz
  rw [Nat.mul_assoc, ← Nat.pow_add, h6, Nat.pow_add]
  simp [Nat.mul_assoc, Nat.mul_left_comm]
theorem dw_mul {V U : Nat} {e f h : Int} (g k : Bool) (hh : held h = held e + held f) : dw (g != k) (V * U) h * ((2 ^ sh 0 : Nat) : Int) = dw g V e * dw k U f := by
  have h1 : ((sz (V * U) h : Int)) * ((2 ^ sh 0 : Nat) : Int) = (sz V e : Int) * (sz U f : Int) := by rw [← Int.natCast_mul, sz_mul hh, Int.natCast_mul]
  cases g <;> cases k <;> simp only [dw, bne_self_eq_false, Bool.false_eq_true, ↓reduceIte, Bool.true_bne, Bool.false_bne, Bool.not_false, Int.neg_mul, Int.mul_neg, Int.neg_neg] <;> rw [h1]
theorem mulB_fine {a b d : Dy} (ha : Fine a) (hb : Fine b) (h : mulB a b = some d) : Fine d ∧ dw d.neg d.V d.e * ((2 ^ sh 0 : Nat) : Int) = dw a.neg a.V a.e * dw b.neg b.V b.e := by
  unfold mulB at h
  split at h
  · cases h
  · obtain ⟨h1, h2, h3⟩ := toldD_fine h
    refine ⟨h1, ?_⟩
    by_cases h0 : a.V * b.V = 0
    · rw [h2, h0, dw_zero, Int.zero_mul]
      rcases Nat.mul_eq_zero.1 h0 with k | k
      · rw [k, dw_zero, Int.zero_mul]
      · rw [k, dw_zero, Int.mul_zero]
    · obtain ⟨h4, h5⟩ := h3 h0
      rw [h4, h2]
      exact dw_mul _ _ (by rw [h1.held, ha.held, hb.held, h5])
theorem mulO_fine {g h : Bool} {V U : Nat} {e f : Int} {d : Dy} (k : mulO (mk g V e) (mk h U f) = some d) : Fine d ∧ dw d.neg d.V d.e * ((2 ^ sh 0 : Nat) : Int) = dw g V e * dw h U f := by
  cases h1 : mk g V e with
  | none => rw [h1] at k; cases mk h U f <;> cases k
  | some a => cases h2 : mk h U f with
    | none => rw [h1, h2] at k; cases k
    | some b =>
      rw [h1, h2] at k
      obtain ⟨a1, a2, _, _⟩ := mk_fine h1
      obtain ⟨b1, b2, _, _⟩ := mk_fine h2
      obtain ⟨c1, c2⟩ := mulB_fine a1 b1 k
      exact ⟨c1, by rw [c2, a2, b2]⟩

/-- What Cmp tells. -/
def cmpI (x y : Int) : Int := if x < y then -1 else if x = y then 0 else 1
theorem cmpI_lt {x y : Int} (h : x < y) : cmpI x y = -1 := by simp [cmpI, h]
theorem cmpI_eq {x y : Int} (h : x = y) : cmpI x y = 0 := by simp [cmpI, h]
theorem cmpI_gt {x y : Int} (h : y < x) : cmpI x y = 1 := by rw [cmpI, if_neg (by omega), if_neg (by omega)]
theorem cmpI_swap (x y : Int) : cmpI y x = - cmpI x y := by
  rcases Int.lt_trichotomy x y with h | h | h
  · rw [cmpI_gt h, cmpI_lt h]; rfl
  · rw [cmpI_eq h, cmpI_eq h.symm]; rfl
  · rw [cmpI_lt h, cmpI_gt h]
theorem cmpI_bd (x y : Int) : -1 ≤ cmpI x y ∧ cmpI x y ≤ 1 := by
  rcases Int.lt_trichotomy x y with h | h | h
  · rw [cmpI_lt h]; decide
  · rw [cmpI_eq h]; decide
  · rw [cmpI_gt h]; decide

def sgD (g : Bool) (V : Nat) : Int := if V = 0 then 0 else if g then -1 else 1
theorem sgD_bd (g : Bool) (V : Nat) : -1 ≤ sgD g V ∧ sgD g V ≤ 1 := by unfold sgD; split; decide; split <;> decide
theorem sgD_spec (g : Bool) (V : Nat) (e : Int) : (sgD g V = 0 ∧ V = 0 ∧ dw g V e = 0) ∨ (sgD g V = -1 ∧ V ≠ 0 ∧ dw g V e = -(sz V e : Int) ∧ 0 < sz V e) ∨ (sgD g V = 1 ∧ V ≠ 0 ∧ dw g V e = (sz V e : Int) ∧ 0 < sz V e) := by
  by_cases h : V = 0
  · subst h; exact Or.inl ⟨rfl, rfl, dw_zero _ _⟩
  · cases g
    · exact Or.inr (Or.inr ⟨by simp [sgD, h], h, rfl, sz_pos e h⟩)
    · exact Or.inr (Or.inl ⟨by simp [sgD, h], h, rfl, sz_pos e h⟩)
theorem cmp_signs {g k : Bool} {V U : Nat} {e f : Int} (h : sgD g V ≠ sgD k U) : cmpI (sgD g V) (sgD k U) = cmpI (dw g V e) (dw k U f) := by
  have h1 := sgD_spec g V e
  have h2 := sgD_spec k U f
  have hlt : sgD g V < sgD k U ∨ sgD k U < sgD g V := by omega
  rcases hlt with h3 | h3
  · rw [cmpI_lt h3, cmpI_lt (by omega)]
  · rw [cmpI_gt h3, cmpI_gt (by omega)]
theorem cmp_noughts {g k : Bool} {V U : Nat} {e f : Int} (h : sgD g V = sgD k U) (h0 : sgD g V = 0) : (0 : Int) = cmpI (dw g V e) (dw k U f) := by
  have h1 := sgD_spec g V e
  have h2 := sgD_spec k U f
  rw [cmpI_eq (by omega)]
theorem cmp_sizes {g k : Bool} {V U : Nat} {e f : Int} (h : sgD g V = sgD k U) (h0 : sgD g V ≠ 0) : sgD g V * cmpZ (sz V e) (sz U f) = cmpI (dw g V e) (dw k U f) := by
  have h1 := sgD_spec g V e
  have h2 := sgD_spec k U f
  have hs : sgD g V = -1 ∨ sgD g V = 1 := by omega
  rcases Nat.lt_trichotomy (sz V e) (sz U f) with h3 | h3 | h3
  · rw [cmpZ_lt h3]
    rcases hs with hs | hs
    · rw [hs, cmpI_gt (by omega)]; rfl
    · rw [hs, cmpI_lt (by omega)]; rfl
  · rw [cmpZ_eq h3, cmpI_eq (by omega), Int.mul_zero]
  · rw [cmpZ_gt h3]
    rcases hs with hs | hs
    · rw [hs, cmpI_lt (by omega)]; rfl
    · rw [hs, cmpI_gt (by omega)]; rfl

/-- The top. -/
def topD (V : Nat) (e : Int) : Int := (blen V : Int) - 1 + held e
theorem blen_sz {V : Nat} (e : Int) (h : V ≠ 0) : (blen (sz V e) : Int) = topD V e + 1 + 2147483648 := by
  unfold sz topD
  rw [blen_shl h]
  have := sh_held e
  omega
theorem lt_of_blen {x y : Nat} (h : blen x < blen y) : x < y := by
  rcases Nat.lt_or_ge x y with h' | h'
  · exact h'
  · have := blen_mono h'; omega
theorem cmp_tops {V U : Nat} {e f : Int} (hV : V ≠ 0) (hU : U ≠ 0) (h : topD V e ≠ topD U f) : cmpI (topD V e) (topD U f) = cmpZ (sz V e) (sz U f) := by
  have h1 := blen_sz e hV
  have h2 := blen_sz f hU
  have hlt : topD V e < topD U f ∨ topD U f < topD V e := by omega
  rcases hlt with h3 | h3
  · rw [cmpI_lt h3, cmpZ_lt (lt_of_blen (by omega))]
  · rw [cmpI_gt h3, cmpZ_gt (lt_of_blen (by omega))]
/-- Two numbers as if their first bits were of one worth. -/
def leadD (V U : Nat) : Int := cmpZ (V * 2 ^ (blen U - blen V)) (U * 2 ^ (blen V - blen U))
theorem leadD_swap (V U : Nat) : leadD U V = - leadD V U := cmpZ_swap _ _
theorem cmpZ_times {x y p : Nat} (hp : 0 < p) : cmpZ (x * p) (y * p) = cmpZ x y := by
  rcases Nat.lt_trichotomy x y with h | h | h
  · rw [cmpZ_lt h, cmpZ_lt (Nat.mul_lt_mul_of_pos_right h hp)]
  · rw [h, cmpZ_eq rfl, cmpZ_eq rfl]
  · rw [cmpZ_gt h, cmpZ_gt (Nat.mul_lt_mul_of_pos_right h hp)]
theorem cmp_lead {V U : Nat} {e f : Int} (hV : V ≠ 0) (hU : U ≠ 0) (h : topD V e = topD U f) : leadD V U = cmpZ (sz V e) (sz U f) := by
  have h1 := sh_held e
  have h2 := sh_held f
  unfold topD at h
  have hv := blen_pos hV
  have hu := blen_pos hU
  unfold leadD sz
  rcases Nat.le_total (blen U) (blen V) with h3 | h3
  · have e1 : sh f = (blen V - blen U) + sh e := by omega
    rw [e1, Nat.sub_eq_zero_of_le h3, Nat.pow_add, ← Nat.mul_assoc, cmpZ_times (Nat.two_pow_pos _)]
    simp
  · have e1 : sh e = (blen U - blen V) + sh f := by omega
    rw [e1, Nat.sub_eq_zero_of_le h3, Nat.pow_add, ← Nat.mul_assoc, cmpZ_times (Nat.two_pow_pos _)]
    simp
/-- .. by cutting the longer one. -/
theorem lead_cut {V U d : Nat} (h : blen U ≤ blen V) (hd : blen V - blen U = d) :
    (V / 2 ^ d = U ∧ V % 2 ^ d ≠ 0 ∧ leadD V U = 1) ∨ ((V / 2 ^ d ≠ U ∨ V % 2 ^ d = 0) ∧ leadD V U = cmpZ (V / 2 ^ d) U) := by
  unfold leadD
  rw [hd, Nat.sub_eq_zero_of_le h, Nat.pow_zero, Nat.mul_one]
  have hp := Nat.two_pow_pos d
  have e := Nat.div_add_mod V (2 ^ d)
  have hr := Nat.mod_lt V hp
  generalize 2 ^ d = p at *
  generalize V / p = q at *
  generalize V % p = r at *
  rcases Nat.lt_trichotomy q U with h1 | h1 | h1
  · refine Or.inr ⟨Or.inl (by omega), ?_⟩
    rw [cmpZ_lt h1, cmpZ_lt]
    have := Nat.mul_le_mul_left p (show q + 1 ≤ U from h1)
    rw [Nat.mul_add, Nat.mul_one, Nat.mul_comm p U] at this
    omega
  · subst h1
    rw [Nat.mul_comm q p]
    by_cases h2 : r = 0
    · exact Or.inr ⟨Or.inr h2, by rw [cmpZ_eq rfl, cmpZ_eq (by omega)]⟩
    · exact Or.inl ⟨rfl, h2, cmpZ_gt (by omega)⟩
  · refine Or.inr ⟨Or.inl (by omega), ?_⟩
    rw [cmpZ_gt h1, cmpZ_gt]
    have := Nat.mul_le_mul_left p (show U + 1 ≤ q from h1)
    rw [Nat.mul_add, Nat.mul_one, Nat.mul_comm p U] at this
    omega
end Go.Proofs.YtafgooiakmmfkaaDoor
/- Words for a dyad in a block of its own; what tells a dyad. -/
namespace Go.Proofs.YtafgooiakmmfkaaDoor
open Go.RowKit

/-- Block b is a variable of type t that holds a dyad. -/
def Bd (w : World) (b t : Nat) (g : Bool) (A : Option Addr) (n c : Nat) (e : Int) : Prop := w.heap[b]? = some (.cells #[.bool g, .slice A n c, .int .i64 e] t)

section
variable {w w' : World} {b t : Nat} {g : Bool} {A : Option Addr} {n c : Nat} {e : Int}
theorem Bd.lt (h : Bd w b t g A n c e) : b < w.heap.size := by
  rcases Nat.lt_or_ge b w.heap.size with h' | h'
  · exact h'
  · rw [Bd, Array.getElem?_eq_none h'] at h; cases h
theorem Bd.new (w : World) (t : Nat) (g : Bool) (A : Option Addr) (n c : Nat) (e : Int) : Bd (w.alloc (.cells #[.bool g, .slice A n c, .int .i64 e] t)) w.heap.size t g A n c e := by
  show (w.heap.push _)[w.heap.size]? = _
  simp
theorem Bd.below (h : Bd w b t g A n c e) (hb : Below w.heap.size w w') : Bd w' b t g A n c e := by
  rw [Bd, hb.block b h.lt]; exact h
theorem Bd.alloc (h : Bd w b t g A n c e) (o : Obj) : Bd (w.alloc o) b t g A n c e := h.below ((Below.refl _ _).alloc (Nat.le_refl _) o)
theorem Bd.c0 (h : Bd w b t g A n c e) : w.cell? ⟨b, 0, none⟩ = some (.bool g) := by simp [World.cell?, show w.heap[b]? = _ from h]
theorem Bd.c1 (h : Bd w b t g A n c e) : w.cell? ⟨b, 1, none⟩ = some (.slice A n c) := by simp [World.cell?, show w.heap[b]? = _ from h]
theorem Bd.c2 (h : Bd w b t g A n c e) : w.cell? ⟨b, 2, none⟩ = some (.int .i64 e) := by simp [World.cell?, show w.heap[b]? = _ from h]
theorem Bd.fz (h : Bd w b t g A n c e) (o : Nat) : w.frozen? ⟨b, o, none⟩ = false := by simp [World.frozen?, show w.heap[b]? = _ from h]
/-- No cell of it is of kind k ≠ i64. -/
theorem Bd.not (h : Bd w b t g A n c e) {o : Nat} {k : IntKind} {z : Int} (hc : w.cell? ⟨b, o, none⟩ = some (.int k z)) : k = .i64 := by
  simp only [World.cell?, show w.heap[b]? = _ from h] at hc
  rcases o with _ | _ | _ | o
  · simp at hc
  · simp at hc
  · simp at hc; exact hc.1.symm
  · simp at hc

/-- A dyad laid into block b. -/
abbrev World.put (w : World) (b : Nat) (g : Bool) (A : Option Addr) (n c : Nat) (e : Int) : World :=
  ((w.setCell ⟨b, 0, none⟩ (.bool g)).setCell ⟨b, 1, none⟩ (.slice A n c)).setCell ⟨b, 2, none⟩ (.int .i64 e)
theorem put_heap (w : World) (b : Nat) (g : Bool) (A : Option Addr) (n c : Nat) (e : Int) (k : Nat) (hk : k ≠ b) : (World.put w b g A n c e).heap[k]? = w.heap[k]? := by
  unfold World.put
  rw [Below.heap_setCell _ _ _ _ hk, Below.heap_setCell _ _ _ _ hk, Below.heap_setCell _ _ _ _ hk]
theorem put_size (w : World) (b : Nat) (g : Bool) (A : Option Addr) (n c : Nat) (e : Int) : (World.put w b g A n c e).heap.size = w.heap.size := by
  simp [World.put, World.setCell]
theorem put_cell (w : World) (b : Nat) (g : Bool) (A : Option Addr) (n c : Nat) (e : Int) (p : Addr) (hp : p.block ≠ b) : (World.put w b g A n c e).cell? p = w.cell? p :=
  World.cell?_of_block (w := w) (put_heap w b g A n c e p.block hp)
theorem below_put {B : Nat} {a w : World} (h : Below B a w) {b : Nat} (hb : B ≤ b) (g : Bool) (A : Option Addr) (n c : Nat) (e : Int) : Below B a (World.put w b g A n c e) :=
  ((h.setCell (p := ⟨b, 0, none⟩) hb _).setCell (p := ⟨b, 1, none⟩) hb _).setCell (p := ⟨b, 2, none⟩) hb _
theorem Bd.put (h : Bd w b t g A n c e) (g' : Bool) (A' : Option Addr) (n' c' : Nat) (e' : Int) : Bd (World.put w b g' A' n' c' e') b t g' A' n' c' e' := by
  unfold Bd at h ⊢
  unfold World.put
  simp [World.setCell, Array.getElem?_modify, h]
theorem Bd.other (h : Bd w b t g A n c e) {b' : Nat} (hb : b ≠ b') (g' : Bool) (A' : Option Addr) (n' c' : Nat) (e' : Int) : Bd (World.put w b' g' A' n' c' e') b t g A n c e := by
  unfold Bd; rw [put_heap _ _ _ _ _ _ _ _ hb]; exact h
/-- A list isn't in such a block. -/
theorem Bd.lim (h : Bd w b t g A n c e) {A1 : Option Addr} {n1 c1 : Nat} {xs : List Nat} (hA : Lim w A1 n1 c1 xs) (g' : Bool) (A' : Option Addr) (n' c' : Nat) (e' : Int) : Lim (World.put w b g' A' n' c' e') A1 n1 c1 xs :=
  ⟨hA.1, hA.2.1, hA.2.2.1, fun hn => by
    obtain ⟨k, o, ek, hk, hc⟩ := hA.at_ hn
    have hne : k ≠ b := by
      rintro rfl
      have := h.not (hc 0 hn)
      cases this
    exact ⟨k, o, ek, by rw [put_size]; exact hk, fun j hj => by rw [put_cell _ _ _ _ _ _ _ _ hne]; exact hc j hj⟩⟩
theorem Bd.tab (h : Bd w b t g A n c e) (hT : Tab w) (g' : Bool) (A' : Option Addr) (n' c' : Nat) (e' : Int) : Tab (World.put w b g' A' n' c' e') := fun j hj => by
  have hne : 0 ≠ b := by
    intro hb
    have hc := hT j hj
    rw [hb] at hc
    have := h.not hc
    cases this
  rw [put_cell _ _ _ _ _ _ _ _ hne]; exact hT j hj
end

/-- The cells of two dyads. -/
abbrev Six (w' : World) (b1 : Nat) (g : Bool) (A : Option Addr) (n c : Nat) (e1 : Int) (b2 : Nat) (k : Bool) (B : Option Addr) (m d : Nat) (e2 : Int) : Prop :=
  w'.cell? ⟨b1, 0, none⟩ = some (.bool g) ∧ w'.cell? ⟨b1, 1, none⟩ = some (.slice A n c) ∧ w'.cell? ⟨b1, 2, none⟩ = some (.int .i64 e1) ∧ w'.cell? ⟨b2, 0, none⟩ = some (.bool k) ∧ w'.cell? ⟨b2, 1, none⟩ = some (.slice B m d) ∧ w'.cell? ⟨b2, 2, none⟩ = some (.int .i64 e2)
theorem Bd.six {w : World} {b1 t1 : Nat} {g : Bool} {A : Option Addr} {n c : Nat} {e1 : Int} {b2 t2 : Nat} {k : Bool} {B : Option Addr} {m d : Nat} {e2 : Int} (h1 : Bd w b1 t1 g A n c e1) (h2 : Bd w b2 t2 k B m d e2) : Six w b1 g A n c e1 b2 k B m d e2 :=
  ⟨h1.c0, h1.c1, h1.c2, h2.c0, h2.c1, h2.c2⟩
theorem Lim.drew {w : World} {A : Option Addr} {n c : Nat} {xs : List Nat} (h : Lim w A n c xs) : Lim w.drew A n c xs := h
theorem Bd.drew {w : World} {b t : Nat} {g : Bool} {A : Option Addr} {n c : Nat} {e : Int} (h : Bd w b t g A n c e) : Bd w.drew b t g A n c e := h

/-- What 'o' says of what was told. -/
def Is (o : Option Dy) (g : Bool) (V : Nat) (E r : Int) : Prop :=
  match o with
  | none => r = 2 ∧ g = false ∧ V = 0 ∧ E = 0
  | some d => r = 0 ∧ g = d.neg ∧ V = d.V ∧ E = d.e
/-- A dyad and an error. -/
def Told (w : World) (o : Option Dy) (L : Nat) (e : Ending) (w' : World) : Prop :=
  ∃ g A m c zs E r, e = .returned (.tuple #[.agg #[.bool g, .slice A m c, .int .i64 E], .int .i64 r]) ∧ m ≤ L ∧ Lim w' A m c zs ∧ Bare zs ∧ Is o g (val zs) E r ∧ Below w.heap.size w w'

theorem bits_l (v : Nat) (A : Option Addr) (n c : Nat) (xs : List Nat) (w : World) (hA : Lim w A n c xs) (hn : n ≤ 4398046511104) (hv : Hid (blen (val xs) = v)) :
    Calls Tryd.prog 63 #[.slice A n c] w fun e w' => e = .returned (.int .i64 (v : Int)) ∧ w = w' := by
  rw [← hv.out]; exact bits_any A n c xs w hA hn
theorem low_l (v : Nat) (A : Option Addr) (n c : Nat) (xs : List Nat) (w : World) (hA : Lim w A n c xs) (hn : n ≤ 4398046511104) (hT : Tab w) (hv : Hid (low (val xs) = v)) :
    Calls Tryd.prog 79 #[.slice A n c] w fun e w' => e = .returned (.int .i64 (v : Int)) ∧ w = w' := by
  rw [← hv.out]; exact low_any A n c xs w hA hn hT
theorem shr_l (N : Nat) (A : Option Addr) (n c : Nat) (xs : List Nat) (w : World) (hA : Lim w A n c xs) (hn : n ≤ 1099511627776) (hT : Tab w) (hN : N ≤ 9223372036854775807) (bb : Bool) (hbb : Hid (decide (val xs % 2 ^ N ≠ 0) = bb)) :
    Calls Tryd.prog 80 #[.slice A n c, .int .i64 (N : Int)] w (Tells2 w (val xs / 2 ^ N) n (.bool bb)) := by
  have h := shr_all A n c xs w hA hn hT (N : Int) (by omega)
  rw [Int.toNat_natCast, hbb.out] at h
  exact h
theorem below_box {w w' : World} {o : Obj} (h : Below (w.alloc o).heap.size (w.alloc o) w') : Below w.heap.size w w' := ((Below.refl _ _).alloc (Nat.le_refl _) _).trans (h.mono (by simp))

theorem held_l (e0 h : Int) (w : World) (hh : Hid (held e0 = h)) : Calls Tryd.prog 77 #[.int .i64 e0] w fun e w' => e = .returned (.int .i64 h) ∧ w = w' := by
  have H : Hid (min (max e0 (-2147483648)) 2147483648 = h) := hh
  go_enter Tryd.func77, Tryd.ntmps77
  go_wp2
  go_ret
  exact ⟨ret_int H.out, rfl⟩
end Go.Proofs.YtafgooiakmmfkaaDoor
/- The walks of dyad.told, Make and Bare. -/
namespace Go.Proofs.YtafgooiakmmfkaaDoor
open Go.RowKit

theorem told_any (neg : Bool) (A : Option Addr) (n c : Nat) (xs : List Nat) (e0 : Int) (w : World) (hA : Lim w A n c xs) (hn : n ≤ 4398046511104) (hB : Bare xs) :
    Calls Tryd.prog 61 #[.bool neg, .slice A n c, .int .i64 e0] w (Told w (toldD neg (val xs) e0) n) := by
  obtain ⟨b, hb⟩ : ∃ b, blen (val xs) = b := ⟨_, rfl⟩
  have Hb := Lib.hid hb
  have a3 : ∀ o, Below w.heap.size w (w.alloc o) := fun o => (Below.refl _ _).alloc (Nat.le_refl _) o
  by_cases h0 : val xs = 0
  · obtain rfl : b = 0 := by rw [← hb, h0]; rfl
    have Hfin : Hid (Told w (toldD neg (val xs) e0) n (.returned (.tuple #[.agg #[.bool false, .slice none 0 0, .int .i64 0], .int .i64 0])) (w.alloc (.cells #[.bool false, .slice none 0 0, .int .i64 0] 36))) :=
      ⟨false, none, 0, 0, [], 0, 0, rfl, Nat.zero_le _, Lim.nil _ _ _, rfl, by rw [h0, toldD_zero]; exact ⟨rfl, rfl, rfl, rfl⟩, a3 _⟩
    have HA := Lib.hid hA
    clear hA hB h0 a3 hb
    go_enter Tryd.func61, Tryd.ntmps61
    go_wp2_with fail
    refine (bits_l 0 A n c xs _ (HA.out.alloc _) (by omega) Hb).mono ?_
    rintro e w' ⟨rfl, rfl⟩
    go_wp2
    exact bodyPost_ret (v := .tuple #[.agg #[.bool false, .slice none 0 0, .int .i64 0], .int .i64 0]) (by simp [results, Tryd.results61, go_sem]) rfl Hfin.out
  · have hb1 : b ≠ 0 := fun h => h0 (blen_zero_iff.1 (hb.trans h))
    have hb2 : decide ((b : Int) = 0) = false := decide_eq_false (by omega)
    by_cases h1 : e0 < -1073741824 ∨ 1073741824 < e0
    · have Hfin : Hid (Told w (toldD neg (val xs) e0) n (.returned (.tuple #[.agg #[.bool false, .slice none 0 0, .int .i64 0], .int .i64 2])) (w.alloc (.cells #[.bool false, .slice none 0 0, .int .i64 0] 36))) :=
        ⟨false, none, 0, 0, [], 0, 2, rfl, Nat.zero_le _, Lim.nil _ _ _, rfl, by rw [toldD, if_neg h0, if_pos h1]; exact ⟨rfl, rfl, rfl, rfl⟩, a3 _⟩
      have HA := Lib.hid hA
      clear hA hB h0 a3 hb
      rcases h1 with h1 | h1
      · go_enter Tryd.func61, Tryd.ntmps61
        go_wp2_with fail
        refine (bits_l b A n c xs _ (HA.out.alloc _) (by omega) Hb).mono ?_
        rintro e w' ⟨rfl, rfl⟩
        go_wp2
        exact bodyPost_ret (v := .tuple #[.agg #[.bool false, .slice none 0 0, .int .i64 0], .int .i64 2]) (by simp [results, Tryd.results61, go_sem]) rfl Hfin.out
      · have h2 : decide (e0 < -1073741824) = false := decide_eq_false (by omega)
        go_enter Tryd.func61, Tryd.ntmps61
        go_wp2_with fail
        refine (bits_l b A n c xs _ (HA.out.alloc _) (by omega) Hb).mono ?_
        rintro e w' ⟨rfl, rfl⟩
        go_wp2
        exact bodyPost_ret (v := .tuple #[.agg #[.bool false, .slice none 0 0, .int .i64 0], .int .i64 2]) (by simp [results, Tryd.results61, go_sem]) rfl Hfin.out
    · have Hfin : Hid (Told w (toldD neg (val xs) e0) n (.returned (.tuple #[.agg #[.bool neg, .slice A n c, .int .i64 e0], .int .i64 0])) (w.alloc (.cells #[.bool neg, .slice A n c, .int .i64 e0] 36))) :=
        ⟨neg, A, n, c, xs, e0, 0, rfl, Nat.le_refl _, hA.alloc _, hB, by rw [toldD, if_neg h0, if_neg h1]; exact ⟨rfl, rfl, rfl, rfl⟩, a3 _⟩
      have HA := Lib.hid hA
      have h2 : decide (e0 < -1073741824) = false := decide_eq_false (by omega)
      have h3 : decide (1073741824 < e0) = false := decide_eq_false (by omega)
      clear hA hB h0 a3 hb h1
      go_enter Tryd.func61, Tryd.ntmps61
      go_wp2_with fail
      refine (bits_l b A n c xs _ (HA.out.alloc _) (by omega) Hb).mono ?_
      rintro e w' ⟨rfl, rfl⟩
      go_wp2
      exact bodyPost_ret (v := .tuple #[.agg #[.bool neg, .slice A n c, .int .i64 e0], .int .i64 0]) (by simp [results, Tryd.results61, go_sem]) rfl Hfin.out

theorem low_le_blen (V : Nat) : low V ≤ blen V := by
  rcases Nat.eq_zero_or_pos V with h | h
  · rw [h]; decide
  · obtain ⟨m, hm⟩ := low_spec h
    have h1 := lt_blen V
    rcases Nat.le_total (low V) (blen V) with h2 | h2
    · exact h2
    · have h3 : (2 : Nat) ^ blen V ≤ 2 ^ low V := Nat.pow_le_pow_right (by decide) h2
      have h4 : 2 ^ low V * 1 ≤ 2 ^ low V * (2 * m + 1) := Nat.mul_le_mul_left _ (by omega)
      omega

theorem make_any (neg : Bool) (A : Option Addr) (n c : Nat) (xs : List Nat) (e0 : Int) (w : World) (hA : Lim w A n c xs) (hn : n ≤ 4294967296) (hT : Tab w) :
    Calls Tryd.prog 57 #[.bool neg, .slice A n c, .int .i64 e0] w (Told w (mk neg (val xs) e0) n) := by
  have hl9 := low_le_blen (val xs)
  have hl8 := hA.blen_le
  have Hm : Hid (mk neg (val xs) e0 = toldD neg (val xs / 2 ^ low (val xs)) (held e0 + low (val xs))) := rfl
  obtain ⟨l, hl⟩ : ∃ l, low (val xs) = l := ⟨_, rfl⟩
  obtain ⟨h, hh⟩ : ∃ h, held e0 = h := ⟨_, rfl⟩
  rw [hl, hh] at Hm
  have hb := held_bd e0
  rw [hh] at hb
  rw [hl] at hl9
  have hl7 : l ≤ 64 * n := by omega
  obtain ⟨bb, hbb⟩ : ∃ bb, decide (val xs % 2 ^ l ≠ 0) = bb := ⟨_, rfl⟩
  have HA := Lib.hid hA
  have HT := Lib.hid hT
  have Hhh := Lib.hid hh
  have Hhl := Lib.hid hl
  have Hbb := Lib.hid hbb
  clear hA hT hl hh hbb hl9 hl8
  go_enter Tryd.func57, Tryd.ntmps57
  go_wp2_with fail
  have a3 : Below w.heap.size w (w.alloc (.cells #[.bool false, .slice none 0 0, .int .i64 0] 36)) := (Below.refl _ _).alloc (Nat.le_refl _) _
  have HA3 := Lib.hid (HA.out.below a3)
  have HT3 := Lib.hid (HT.out.below a3)
  have HB3 := Lib.hid (Bd.new w 36 false none 0 0 0)
  have H3 := Lib.hid a3
  clear HA HT a3
  refine (low_l l A n c xs _ HA3.out (by omega) HT3.out Hhl).mono ?_
  rintro e w' ⟨rfl, rfl⟩
  go_wp2_with fail
  refine (shr_l l A n c xs _ HA3.out (by omega) HT3.out (by omega) bb Hbb).mono ?_
  rintro e w1 ⟨A1, m1, c1, us, rfl, hm1, hl1, hb1, hv1, hB1⟩
  have HB1 := Lib.hid (HB3.out.below hB1)
  have HS1 := Lib.hid (below_box hB1)
  have H1 := Lib.hid (told_any neg A1 m1 c1 us (h + l) w1 hl1 (by omega) hb1)
  rw [hv1, ← Hm.out] at H1
  clear hB1 hl1 hb1 hv1 HA3 HT3 HB3 H3 Hbb Hhl
  go_wp2_with fail
  refine (held_l e0 h w1 Hhh).mono ?_
  rintro e w' ⟨rfl, rfl⟩
  go_wp2_with fail
  refine H1.out.mono ?_
  rintro e w2 ⟨g, A2, m2, c2, zs, E, r, rfl, hm2, hl2, hb2, his, hB2⟩
  have HB2 := HB1.out.below hB2
  have Hfin : Hid (Told w (mk neg (val xs) e0) n (.returned (.tuple #[.agg #[.bool g, .slice A2 m2 c2, .int .i64 E], .int .i64 r])) (World.put w2 w.heap.size g A2 m2 c2 E)) :=
    ⟨g, A2, m2, c2, zs, E, r, rfl, by omega, HB2.lim hl2 _ _ _ _ _, hb2, his, below_put (HS1.out.trans (hB2.mono HS1.out.size)) (Nat.le_refl _) _ _ _ _ _⟩
  have x0 := HB2.c0
  have x1 := HB2.c1
  have x2 := HB2.c2
  have xf := HB2.fz
  clear HB2 hB2 HB1 H1 hl2 hb2 his HS1 Hm Hhh
  go_wp2
  exact bodyPost_ret (v := .tuple #[.agg #[.bool g, .slice A2 m2 c2, .int .i64 E], .int .i64 r]) (by simp [results, Tryd.results57, go_sem, x0, x1, x2]) rfl Hfin.out

theorem dbare_any (neg : Bool) (A : Option Addr) (n c : Nat) (xs : List Nat) (e0 : Int) (w : World) (hA : Lim w A n c xs) (hn : n ≤ 4294967296) (hT : Tab w) :
    Calls Tryd.prog 72 #[.agg #[.bool neg, .slice A n c, .int .i64 e0]] w (Told w (mk neg (val xs) e0) n) := by
  have a3 : Below w.heap.size w ((w.alloc (.cells #[.bool neg, .slice A n c, .int .i64 e0] 36)).alloc (.cells #[.bool false, .slice none 0 0, .int .i64 0] 36)) := ((Below.refl _ _).alloc (Nat.le_refl _) _).alloc (by simp) _
  have H1 := Lib.hid (make_any neg A n c xs e0 _ (hA.below a3) hn (hT.below a3))
  have HB3 := Lib.hid (Bd.new (w.alloc (.cells #[.bool neg, .slice A n c, .int .i64 e0] 36)) 36 false none 0 0 0)
  have H3 := Lib.hid a3
  clear a3 hA hT
  go_enter Tryd.func72, Tryd.ntmps72
  go_wp2_with fail
  refine H1.out.mono ?_
  rintro e w2 ⟨g, A2, m2, c2, zs, E, r, rfl, hm2, hl2, hb2, his, hB2⟩
  have HB2 := HB3.out.below hB2
  have Hfin : Hid (Told w (mk neg (val xs) e0) n (.returned (.tuple #[.agg #[.bool g, .slice A2 m2 c2, .int .i64 E], .int .i64 r])) (World.put w2 (w.heap.size + 1) g A2 m2 c2 E)) :=
    ⟨g, A2, m2, c2, zs, E, r, rfl, by omega, by have := HB2.lim hl2 g A2 m2 c2 E; simpa using this, hb2, his, below_put (H3.out.trans (hB2.mono H3.out.size)) (Nat.le_succ _) _ _ _ _ _⟩
  have HB4 : Bd w2 (w.heap.size + 1) 36 false none 0 0 0 := by simpa using HB2
  have x0 := HB4.c0
  have x1 := HB4.c1
  have x2 := HB4.c2
  have xf := HB4.fz
  clear HB2 HB4 hB2 HB3 H1 hl2 hb2 his H3
  go_wp2
  exact bodyPost_ret (v := .tuple #[.agg #[.bool g, .slice A2 m2 c2, .int .i64 E], .int .i64 r]) (by simp [results, Tryd.results72, go_sem, x0, x1, x2]) rfl Hfin.out
end Go.Proofs.YtafgooiakmmfkaaDoor
/- The walks of dyad.Sign, Top, leading, sizes and Cmp. -/
namespace Go.Proofs.YtafgooiakmmfkaaDoor
open Go.RowKit

theorem below1 (w : World) (o : Obj) : Below w.heap.size w (w.alloc o) := (Below.refl _ _).alloc (Nat.le_refl _) o

theorem sign_l (v : Int) (g : Bool) (A : Option Addr) (n c : Nat) (xs : List Nat) (e0 : Int) (w : World) (hA : Lim w A n c xs) (hn : n ≤ 4398046511104) (hv : Hid (sgD g (val xs) = v)) :
    Calls Tryd.prog 31 #[.agg #[.bool g, .slice A n c, .int .i64 e0]] w fun e w' => e = .returned (.int .i64 v) ∧ Below w.heap.size w w' := by
  obtain ⟨b, hb⟩ : ∃ b, blen (val xs) = b := ⟨_, rfl⟩
  have HA := Lib.hid (hA.alloc (.cells #[.bool g, .slice A n c, .int .i64 e0] 36))
  have H1 := Lib.hid (below1 w (.cells #[.bool g, .slice A n c, .int .i64 e0] 36))
  have Hb := Lib.hid hb
  have hv' := hv.out
  clear hv
  by_cases h0 : val xs = 0
  · obtain rfl : b = 0 := by rw [← hb, h0]; rfl
    obtain rfl : v = 0 := by rw [← hv', h0]; rfl
    clear hA h0 hv' hb
    go_enter Tryd.func31, Tryd.ntmps31
    go_wp2_with fail
    refine (bits_l 0 A n c xs _ HA.out (by omega) Hb).mono ?_
    rintro e w' ⟨rfl, rfl⟩
    go_wp2
    go_ret
    exact ⟨rfl, H1.out⟩
  · have hb1 : b ≠ 0 := fun h => h0 (blen_zero_iff.1 (hb.trans h))
    have hb2 : decide ((b : Int) = 0) = false := decide_eq_false (by omega)
    rw [sgD, if_neg h0] at hv'
    clear hA h0 hb
    cases g
    · obtain rfl : v = 1 := hv'.symm
      go_enter Tryd.func31, Tryd.ntmps31
      go_wp2_with fail
      refine (bits_l b A n c xs _ HA.out (by omega) Hb).mono ?_
      rintro e w' ⟨rfl, rfl⟩
      go_wp2
      go_ret
      exact ⟨rfl, H1.out⟩
    · obtain rfl : v = -1 := hv'.symm
      go_enter Tryd.func31, Tryd.ntmps31
      go_wp2_with fail
      refine (bits_l b A n c xs _ HA.out (by omega) Hb).mono ?_
      rintro e w' ⟨rfl, rfl⟩
      go_wp2
      go_ret
      exact ⟨rfl, H1.out⟩

theorem top_l (v : Int) (g : Bool) (A : Option Addr) (n c : Nat) (xs : List Nat) (e0 : Int) (w : World) (hA : Lim w A n c xs) (hn : n ≤ 4294967296) (h0 : val xs ≠ 0) (hv : Hid (topD (val xs) e0 = v)) :
    Calls Tryd.prog 55 #[.agg #[.bool g, .slice A n c, .int .i64 e0]] w fun e w' => e = .returned (.tuple #[.int .i64 v, .bool true]) ∧ Below w.heap.size w w' := by
  obtain ⟨b, hb⟩ : ∃ b, blen (val xs) = b := ⟨_, rfl⟩
  obtain ⟨h, hh⟩ : ∃ h, held e0 = h := ⟨_, rfl⟩
  have HA := Lib.hid (hA.alloc (.cells #[.bool g, .slice A n c, .int .i64 e0] 36))
  have H1 := Lib.hid (below1 w (.cells #[.bool g, .slice A n c, .int .i64 e0] 36))
  have Hb := Lib.hid hb
  have Hh := Lib.hid hh
  have hbl := hA.blen_le
  have hhb := held_bd e0
  have hv' := hv.out
  rw [topD, hb, hh] at hv'
  rw [hb] at hbl
  rw [hh] at hhb
  have hb1 : b ≠ 0 := fun h => h0 (blen_zero_iff.1 (hb.trans h))
  have hb2 : decide ((b : Int) = 0) = false := decide_eq_false (by omega)
  have Hv : Hid ((b : Int) - 1 + h = v) := hv'
  clear hA h0 hb hh hv hv'
  go_enter Tryd.func55, Tryd.ntmps55
  go_wp2_with fail
  refine (bits_l b A n c xs _ HA.out (by omega) Hb).mono ?_
  rintro e w' ⟨rfl, rfl⟩
  go_wp2_with fail
  refine (held_l e0 h _ Hh).mono ?_
  rintro e w' ⟨rfl, rfl⟩
  go_wp2
  go_ret2
  exact ⟨by rw [← Hv.out]; rfl, H1.out⟩

theorem isnan_l (x : Int) (w : World) : Calls Tryd.prog 75 #[.int .i64 x] w fun e w' => e = .returned (.bool false) ∧ w = w' := by
  go_enter Tryd.func75, Tryd.ntmps75
  go_wp2
  go_ret
  exact ⟨by simp, rfl⟩
theorem compare_l (x y v : Int) (w : World) (hv : Hid (cmpI x y = v)) : Calls Tryd.prog 51 #[.int .i64 x, .int .i64 y] w fun e w' => e = .returned (.int .i64 v) ∧ w = w' := by
  have hv' := hv.out
  clear hv
  rcases Int.lt_trichotomy x y with h | h | h
  · rw [cmpI_lt h] at hv'
    subst hv'
    go_enter Tryd.func51, Tryd.ntmps51
    go_wp2_with fail
    refine (isnan_l x w).mono ?_
    rintro e w' ⟨rfl, rfl⟩
    go_wp2_with fail
    refine (isnan_l y w).mono ?_
    rintro e w' ⟨rfl, rfl⟩
    go_wp2
    go_ret
    exact ⟨rfl, rfl⟩
  · rw [cmpI_eq h] at hv'
    subst hv'
    subst h
    go_enter Tryd.func51, Tryd.ntmps51
    go_wp2_with fail
    refine (isnan_l x w).mono ?_
    rintro e w' ⟨rfl, rfl⟩
    go_wp2_with fail
    refine (isnan_l x w).mono ?_
    rintro e w' ⟨rfl, rfl⟩
    go_wp2
    go_ret
    exact ⟨rfl, rfl⟩
  · rw [cmpI_gt h] at hv'
    subst hv'
    have h1 : decide (x < y) = false := decide_eq_false (by omega)
    go_enter Tryd.func51, Tryd.ntmps51
    go_wp2_with fail
    refine (isnan_l x w).mono ?_
    rintro e w' ⟨rfl, rfl⟩
    go_wp2_with fail
    refine (isnan_l y w).mono ?_
    rintro e w' ⟨rfl, rfl⟩
    go_wp2
    go_ret
    exact ⟨rfl, rfl⟩

theorem lead_ge (v : Int) (A : Option Addr) (n c : Nat) (xs : List Nat) (B : Option Addr) (m d : Nat) (ys : List Nat) (w : World) (hA : Lim w A n c xs) (hB : Lim w B m d ys) (hn : n ≤ 4294967296) (hm : m ≤ 4294967296) (hT : Tab w) (hle : blen (val ys) ≤ blen (val xs)) (hv : Hid (leadD (val xs) (val ys) = v)) :
    Calls Tryd.prog 76 #[.slice A n c, .slice B m d] w fun e w' => e = .returned (.int .i64 v) ∧ Below w.heap.size w w' := by
  obtain ⟨k, hk⟩ : ∃ k, blen (val xs) - blen (val ys) = k := ⟨_, rfl⟩
  have hcut := lead_cut hle hk
  rw [hv.out] at hcut
  obtain ⟨bx, hbx⟩ : ∃ b, blen (val xs) = b := ⟨_, rfl⟩
  obtain ⟨by_, hby⟩ : ∃ b, blen (val ys) = b := ⟨_, rfl⟩
  obtain ⟨bb, hbb⟩ : ∃ bb, decide (val xs % 2 ^ k ≠ 0) = bb := ⟨_, rfl⟩
  obtain ⟨f, hf⟩ : ∃ f, cmpZ (val xs / 2 ^ k) (val ys) = f := ⟨_, rfl⟩
  have hcase : (f = 0 ∧ bb = true ∧ v = 1) ∨ (f = 0 ∧ bb = false ∧ v = 0) ∨ (f ≠ 0 ∧ v = f) := by
    rcases hcut with ⟨h1, h2, h3⟩ | ⟨h1, h3⟩
    · exact Or.inl ⟨by rw [← hf]; exact cmpZ_eq h1, by rw [← hbb]; exact decide_eq_true h2, h3⟩
    · by_cases h0 : f = 0
      · have h4 : val xs / 2 ^ k = val ys := by
          rw [← hf] at h0
          rcases Nat.lt_trichotomy (val xs / 2 ^ k) (val ys) with h | h | h
          · rw [cmpZ_lt h] at h0; omega
          · exact h
          · rw [cmpZ_gt h] at h0; omega
        have h5 : val xs % 2 ^ k = 0 := by rcases h1 with h1 | h1; exact absurd h4 h1; exact h1
        exact Or.inr (Or.inl ⟨h0, by rw [← hbb]; exact decide_eq_false (fun h => h h5), by rw [h3, hf, h0]⟩)
      · exact Or.inr (Or.inr ⟨h0, by rw [h3, hf]⟩)
  have hbl := hA.blen_le
  have hbl2 := hB.blen_le
  rw [hbx, hby] at hk hle
  rw [hbx] at hbl
  rw [hby] at hbl2
  have hki : (bx : Int) - by_ = (k : Int) := by omega
  have hk9 : k ≤ 64 * n := by omega
  have Hx := Lib.hid hbx
  have Hy := Lib.hid hby
  have HA := Lib.hid hA
  have HB := Lib.hid hB
  have HT := Lib.hid hT
  have Hbb := Lib.hid hbb
  have Hf := Lib.hid hf
  clear hA hB hT hbx hby hbb hf hcut hv hk hle
  go_enter Tryd.func76, Tryd.ntmps76
  go_wp2_with fail
  refine (bits_l bx A n c xs _ HA.out (by omega) Hx).mono ?_
  rintro e w' ⟨rfl, rfl⟩
  go_wp2_with fail
  refine (bits_l by_ B m d ys _ HB.out (by omega) Hy).mono ?_
  rintro e w' ⟨rfl, rfl⟩
  go_wp2_with fail
  refine (shr_l k A n c xs _ HA.out (by omega) HT.out (by omega) bb Hbb).mono ?_
  rintro e w1 ⟨A1, m1, c1, us, rfl, hm1, hl1, hb1, hv1, hB1⟩
  have H2 := Lib.hid (cmp_b f A1 m1 c1 us B m d ys w1 hl1 (HB.out.below hB1) (by omega) (by omega) (by rw [hv1]; exact Hf))
  have HS := Lib.hid hB1
  clear hl1 hb1 hv1 hB1 HA HB HT Hx Hy Hbb Hf
  rcases hcase with ⟨rfl, rfl, rfl⟩ | ⟨rfl, rfl, rfl⟩ | ⟨hf0, rfl⟩
  · go_wp2_with fail
    refine H2.out.mono ?_
    rintro e w2 ⟨rfl, hB2⟩
    have Hfin := Lib.hid (HS.out.trans (hB2.mono HS.out.size))
    clear hB2 HS H2
    go_wp2
    go_ret
    exact ⟨rfl, Hfin.out⟩
  · go_wp2_with fail
    refine H2.out.mono ?_
    rintro e w2 ⟨rfl, hB2⟩
    have Hfin := Lib.hid (HS.out.trans (hB2.mono HS.out.size))
    clear hB2 HS H2
    go_wp2
    go_ret
    exact ⟨rfl, Hfin.out⟩
  · have hf1 : decide (v = 0) = false := decide_eq_false hf0
    go_wp2_with fail
    refine H2.out.mono ?_
    rintro e w2 ⟨rfl, hB2⟩
    have Hfin := Lib.hid (HS.out.trans (hB2.mono HS.out.size))
    clear hB2 HS H2
    go_wp2
    go_ret
    exact ⟨rfl, Hfin.out⟩

theorem lead_any (v : Int) (A : Option Addr) (n c : Nat) (xs : List Nat) (B : Option Addr) (m d : Nat) (ys : List Nat) (w : World) (hA : Lim w A n c xs) (hB : Lim w B m d ys) (hn : n ≤ 4294967296) (hm : m ≤ 4294967296) (hT : Tab w) (hv : Hid (leadD (val xs) (val ys) = v)) :
    Calls Tryd.prog 76 #[.slice A n c, .slice B m d] w fun e w' => e = .returned (.int .i64 v) ∧ Below w.heap.size w w' := by
  rcases Nat.lt_or_ge (blen (val xs)) (blen (val ys)) with hlt | hle
  · have hvb := cmpZ_bd (val xs * 2 ^ (blen (val ys) - blen (val xs))) (val ys * 2 ^ (blen (val xs) - blen (val ys)))
    rw [show cmpZ _ _ = v from hv.out] at hvb
    obtain ⟨u, hu⟩ : ∃ u, leadD (val ys) (val xs) = u := ⟨_, rfl⟩
    have huv : u = -v := by rw [← hu, leadD_swap, hv.out]
    have H1 := Lib.hid (lead_ge u B m d ys A n c xs w hB hA hm hn hT (by omega) hu)
    obtain ⟨bx, hbx⟩ : ∃ b, blen (val xs) = b := ⟨_, rfl⟩
    obtain ⟨by_, hby⟩ : ∃ b, blen (val ys) = b := ⟨_, rfl⟩
    rw [hbx, hby] at hlt
    have hbl := hA.blen_le
    have hbl2 := hB.blen_le
    rw [hbx] at hbl
    rw [hby] at hbl2
    have Hx := Lib.hid hbx
    have Hy := Lib.hid hby
    have HA := Lib.hid hA
    have HB := Lib.hid hB
    have hlt' : decide ((bx : Int) - by_ < 0) = true := decide_eq_true (by omega)
    have hub : -1 ≤ u ∧ u ≤ 1 := by omega
    have Huv : Hid (-u = v) := by show -u = v; omega
    clear hA hB hT hbx hby hu huv hv hvb
    go_enter Tryd.func76, Tryd.ntmps76
    go_wp2_with fail
    refine (bits_l bx A n c xs _ HA.out (by omega) Hx).mono ?_
    rintro e w' ⟨rfl, rfl⟩
    go_wp2_with fail
    refine (bits_l by_ B m d ys _ HB.out (by omega) Hy).mono ?_
    rintro e w' ⟨rfl, rfl⟩
    go_wp2_with fail
    refine H1.out.mono ?_
    rintro e w1 ⟨rfl, hB1⟩
    have Hfin := Lib.hid hB1
    clear hB1 H1 HA HB Hx Hy
    go_wp2
    go_ret
    exact ⟨ret_int Huv.out, Hfin.out⟩
  · exact lead_ge v A n c xs B m d ys w hA hB hn hm hT hle hv

theorem sizes_l (v : Int) (g : Bool) (A : Option Addr) (n c : Nat) (xs : List Nat) (e1 : Int) (k : Bool) (B : Option Addr) (m d : Nat) (ys : List Nat) (e2 : Int) (w : World) (hA : Lim w A n c xs) (hB : Lim w B m d ys) (hn : n ≤ 4294967296) (hm : m ≤ 4294967296) (hT : Tab w) (hx : val xs ≠ 0) (hy : val ys ≠ 0) (hv : Hid (cmpZ (sz (val xs) e1) (sz (val ys) e2) = v)) :
    Calls Tryd.prog 52 #[.agg #[.bool g, .slice A n c, .int .i64 e1], .agg #[.bool k, .slice B m d, .int .i64 e2]] w fun e w' => e = .returned (.int .i64 v) ∧ Below w.heap.size w w' := by
  obtain ⟨t1, ht1⟩ : ∃ t, topD (val xs) e1 = t := ⟨_, rfl⟩
  obtain ⟨t2, ht2⟩ : ∃ t, topD (val ys) e2 = t := ⟨_, rfl⟩
  have a3 : Below w.heap.size w ((w.alloc (.cells #[.bool g, .slice A n c, .int .i64 e1] 36)).alloc (.cells #[.bool k, .slice B m d, .int .i64 e2] 36)) := ((Below.refl _ _).alloc (Nat.le_refl _) _).alloc (by simp) _
  have b1 := (Bd.new w 36 g A n c e1).alloc (.cells #[.bool k, .slice B m d, .int .i64 e2] 36)
  have b2 := Bd.new (w.alloc (.cells #[.bool g, .slice A n c, .int .i64 e1] 36)) 36 k B m d e2
  rw [World.size_alloc] at b2
  have HS := Lib.hid a3
  have Hb1 := Lib.hid b1
  have Hb2 := Lib.hid b2
  have HA := Lib.hid (hA.below a3)
  have HB := Lib.hid (hB.below a3)
  have HT := Lib.hid (hT.below a3)
  have Ht1 := Lib.hid ht1
  have Ht2 := Lib.hid ht2
  have hcase : (t1 ≠ t2 ∧ Hid (cmpI t1 t2 = v)) ∨ (t1 = t2 ∧ Hid (leadD (val xs) (val ys) = v)) := by
    by_cases h : t1 = t2
    · exact Or.inr ⟨h, (cmp_lead hx hy (by rw [ht1, ht2, h])).trans hv.out⟩
    · exact Or.inl ⟨h, by have := cmp_tops hx hy (e := e1) (f := e2) (by rw [ht1, ht2]; exact h); rw [ht1, ht2] at this; exact this.trans hv.out⟩
  clear hA hB hT a3 b1 b2 ht1 ht2 hv
  go_enter Tryd.func52, Tryd.ntmps52
  go_wp2_with fail
  refine (top_l t1 g A n c xs e1 _ HA.out (by omega) hx Ht1).mono ?_
  rintro e w1 ⟨rfl, hB1⟩
  replace HS := Lib.hid (HS.out.trans (hB1.mono HS.out.size))
  replace Hb1 := Lib.hid (Hb1.out.below hB1)
  replace Hb2 := Lib.hid (Hb2.out.below hB1)
  replace HA := Lib.hid (HA.out.below hB1)
  replace HB := Lib.hid (HB.out.below hB1)
  replace HT := Lib.hid (HT.out.below hB1)
  have x0 := Hb2.out.c0
  have x1 := Hb2.out.c1
  have x2 := Hb2.out.c2
  clear hB1
  go_wp2_with fail
  refine (top_l t2 k B m d ys e2 _ HB.out (by omega) hy Ht2).mono ?_
  rintro e w2 ⟨rfl, hB1⟩
  replace HS := Lib.hid (HS.out.trans (hB1.mono HS.out.size))
  replace Hb1 := Lib.hid (Hb1.out.below hB1)
  replace Hb2 := Lib.hid (Hb2.out.below hB1)
  replace HA := Lib.hid (HA.out.below hB1)
  replace HB := Lib.hid (HB.out.below hB1)
  replace HT := Lib.hid (HT.out.below hB1)
  clear hB1 x0 x1 x2
  rcases hcase with ⟨hne, hv⟩ | ⟨rfl, hv⟩
  · have h1 : decide (t1 = t2) = false := decide_eq_false hne
    go_wp2_with fail
    refine (compare_l t1 t2 v w2 hv).mono ?_
    rintro e w' ⟨rfl, rfl⟩
    go_wp2
    go_ret
    exact ⟨rfl, HS.out⟩
  · have x1 := Hb1.out.c1
    have y1 := Hb2.out.c1
    go_wp2_with fail
    refine (lead_any v A n c xs B m d ys w2 HA.out HB.out hn hm HT.out hv).mono ?_
    rintro e w3 ⟨rfl, hB1⟩
    replace HS := Lib.hid (HS.out.trans (hB1.mono HS.out.size))
    clear hB1 x1 y1
    go_wp2
    go_ret
    exact ⟨rfl, HS.out⟩
end Go.Proofs.YtafgooiakmmfkaaDoor
/- The walk of dyad.Cmp. -/
namespace Go.Proofs.YtafgooiakmmfkaaDoor
open Go.RowKit

/-- What is held while the two signs are asked for. -/
def Held2 (w0 : World) (b1 : Nat) (g : Bool) (A : Option Addr) (n c : Nat) (xs : List Nat) (e1 : Int) (b2 : Nat) (k : Bool) (B : Option Addr) (m d : Nat) (ys : List Nat) (e2 : Int) (w : World) : Prop :=
  Bd w b1 36 g A n c e1 ∧ Bd w b2 36 k B m d e2 ∧ Lim w A n c xs ∧ Lim w B m d ys ∧ Tab w ∧ Below w0.heap.size w0 w
theorem Held2.below {w0 : World} {b1 : Nat} {g : Bool} {A : Option Addr} {n c : Nat} {xs : List Nat} {e1 : Int} {b2 : Nat} {k : Bool} {B : Option Addr} {m d : Nat} {ys : List Nat} {e2 : Int} {w w' : World}
    (h : Held2 w0 b1 g A n c xs e1 b2 k B m d ys e2 w) (hb : Below w.heap.size w w') : Held2 w0 b1 g A n c xs e1 b2 k B m d ys e2 w' := by
  obtain ⟨h1, h2, h3, h4, h5, h6⟩ := h
  exact ⟨h1.below hb, h2.below hb, h3.below hb, h4.below hb, h5.below hb, h6.trans (hb.mono h6.size)⟩

/-- .. with the cells spelt out. -/
abbrev Cells2 (w0 : World) (b1 : Nat) (g : Bool) (A : Option Addr) (n c : Nat) (xs : List Nat) (e1 : Int) (b2 : Nat) (k : Bool) (B : Option Addr) (m d : Nat) (ys : List Nat) (e2 : Int) (w' : World) : Prop :=
  w'.cell? ⟨b1, 0, none⟩ = some (.bool g) ∧ w'.cell? ⟨b1, 1, none⟩ = some (.slice A n c) ∧ w'.cell? ⟨b1, 2, none⟩ = some (.int .i64 e1) ∧ w'.cell? ⟨b2, 0, none⟩ = some (.bool k) ∧ w'.cell? ⟨b2, 1, none⟩ = some (.slice B m d) ∧ w'.cell? ⟨b2, 2, none⟩ = some (.int .i64 e2) ∧ Hid (Held2 w0 b1 g A n c xs e1 b2 k B m d ys e2 w')
theorem Held2.cells {w0 : World} {b1 : Nat} {g : Bool} {A : Option Addr} {n c : Nat} {xs : List Nat} {e1 : Int} {b2 : Nat} {k : Bool} {B : Option Addr} {m d : Nat} {ys : List Nat} {e2 : Int} {w : World}
    (h : Held2 w0 b1 g A n c xs e1 b2 k B m d ys e2 w) : Cells2 w0 b1 g A n c xs e1 b2 k B m d ys e2 w := ⟨h.1.c0, h.1.c1, h.1.c2, h.2.1.c0, h.2.1.c1, h.2.1.c2, h⟩
theorem Held2.start (w : World) (g : Bool) (A : Option Addr) (n c : Nat) (xs : List Nat) (e1 : Int) (k : Bool) (B : Option Addr) (m d : Nat) (ys : List Nat) (e2 : Int) (hA : Lim w A n c xs) (hB : Lim w B m d ys) (hT : Tab w) :
    Held2 w w.heap.size g A n c xs e1 (w.heap.size + 1) k B m d ys e2 ((w.alloc (.cells #[.bool g, .slice A n c, .int .i64 e1] 36)).alloc (.cells #[.bool k, .slice B m d, .int .i64 e2] 36)) := by
  have a3 : Below w.heap.size w ((w.alloc (.cells #[.bool g, .slice A n c, .int .i64 e1] 36)).alloc (.cells #[.bool k, .slice B m d, .int .i64 e2] 36)) := ((Below.refl _ _).alloc (Nat.le_refl _) _).alloc (by simp) _
  have b1 := (Bd.new w 36 g A n c e1).alloc (.cells #[.bool k, .slice B m d, .int .i64 e2] 36)
  have b2 := Bd.new (w.alloc (.cells #[.bool g, .slice A n c, .int .i64 e1] 36)) 36 k B m d e2
  rw [World.size_alloc] at b2
  exact ⟨b1, b2, hA.below a3, hB.below a3, hT.below a3, a3⟩
theorem below_drew (w : World) : Below w.heap.size w w.drew := (Below.refl _ _).drew

set_option maxHeartbeats 2000000 in
set_option maxRecDepth 20000 in
theorem dcmp_l (v : Int) (g : Bool) (A : Option Addr) (n c : Nat) (xs : List Nat) (e1 : Int) (k : Bool) (B : Option Addr) (m d : Nat) (ys : List Nat) (e2 : Int) (w : World) (hA : Lim w A n c xs) (hB : Lim w B m d ys) (hn : n ≤ 4294967296) (hm : m ≤ 4294967296) (hT : Tab w) (hv : Hid (cmpI (dw g (val xs) e1) (dw k (val ys) e2) = v)) :
    Calls Tryd.prog 25 #[.agg #[.bool g, .slice A n c, .int .i64 e1], .agg #[.bool k, .slice B m d, .int .i64 e2]] w fun e w' => e = .returned (.int .i64 v) ∧ Below w.heap.size w w' := by
  obtain ⟨s1, hs1⟩ : ∃ s, sgD g (val xs) = s := ⟨_, rfl⟩
  obtain ⟨s2, hs2⟩ : ∃ s, sgD k (val ys) = s := ⟨_, rfl⟩
  have H0 := Lib.hid ((Held2.start w g A n c xs e1 k B m d ys e2 hA hB hT).below (below_drew _))
  have HS1 : Hid (∀ u, Cells2 w w.heap.size g A n c xs e1 (w.heap.size + 1) k B m d ys e2 u → Calls Tryd.prog 31 #[.agg #[.bool g, .slice A n c, .int .i64 e1]] u fun e w' => e = .returned (.int .i64 s1) ∧ Cells2 w w.heap.size g A n c xs e1 (w.heap.size + 1) k B m d ys e2 w') := fun u hu => by
    have h := hu.2.2.2.2.2.2.out
    refine (sign_l s1 g A n c xs e1 u h.2.2.1 (by omega) hs1).mono ?_
    rintro e w' ⟨rfl, hb⟩
    exact ⟨rfl, (h.below hb).cells⟩
  have HS2 : Hid (∀ u, Cells2 w w.heap.size g A n c xs e1 (w.heap.size + 1) k B m d ys e2 u → Calls Tryd.prog 31 #[.agg #[.bool k, .slice B m d, .int .i64 e2]] u fun e w' => e = .returned (.int .i64 s2) ∧ Cells2 w w.heap.size g A n c xs e1 (w.heap.size + 1) k B m d ys e2 w') := fun u hu => by
    have h := hu.2.2.2.2.2.2.out
    refine (sign_l s2 k B m d ys e2 u h.2.2.2.1 (by omega) hs2).mono ?_
    rintro e w' ⟨rfl, hb⟩
    exact ⟨rfl, (h.below hb).cells⟩
  have hcase : (s1 ≠ s2 ∧ Hid (cmpI s1 s2 = v)) ∨ (s1 = s2 ∧ s1 = 0 ∧ v = 0) ∨ (s1 = s2 ∧ (s1 = 1 ∨ s1 = -1) ∧ ∃ z, -1 ≤ z ∧ z ≤ 1 ∧ val xs ≠ 0 ∧ val ys ≠ 0 ∧ Hid (cmpZ (sz (val xs) e1) (sz (val ys) e2) = z) ∧ s1 * z = v) := by
    have k1 := sgD_spec g (val xs) e1
    have k2 := sgD_spec k (val ys) e2
    rw [hs1] at k1
    rw [hs2] at k2
    by_cases h : s1 = s2
    · refine Or.inr ?_
      by_cases h0 : s1 = 0
      · refine Or.inl ⟨h, h0, ?_⟩
        rw [← hv.out, ← cmp_noughts (by rw [hs1, hs2, h]) (by rw [hs1, h0])]
      · refine Or.inr ⟨h, by omega, _, (cmpZ_bd _ _).1, (cmpZ_bd _ _).2, by omega, by omega, rfl, ?_⟩
        have := cmp_sizes (g := g) (k := k) (V := val xs) (U := val ys) (e := e1) (f := e2) (by rw [hs1, hs2, h]) (by rw [hs1]; exact h0)
        rw [hs1] at this
        rw [this, hv.out]
    · refine Or.inl ⟨h, ?_⟩
      have := cmp_signs (g := g) (k := k) (V := val xs) (U := val ys) (e := e1) (f := e2) (by rw [hs1, hs2]; exact h)
      rw [hs1, hs2] at this
      exact this.trans hv.out
  clear hA hB hT hs1 hs2 hv
  go_enter Tryd.func25, Tryd.ntmps25
  go_wp2_with fail
  go_region_held3 (fun w' => w'.cell? ⟨w.heap.size, 0, none⟩ = some (.bool g) ∧ w'.cell? ⟨w.heap.size, 1, none⟩ = some (.slice A n c) ∧ w'.cell? ⟨w.heap.size, 2, none⟩ = some (.int .i64 e1) ∧ w'.cell? ⟨w.heap.size + 1, 0, none⟩ = some (.bool k) ∧ w'.cell? ⟨w.heap.size + 1, 1, none⟩ = some (.slice B m d) ∧ w'.cell? ⟨w.heap.size + 1, 2, none⟩ = some (.int .i64 e2) ∧ Hid (Held2 w w.heap.size g A n c xs e1 (w.heap.size + 1) k B m d ys e2 w'))
    (first | exact H0.out.cells | assumption)
    (first | (go_at_call 31; refine (HS1.out _ (by assumption)).mono ?_; rintro e w1 ⟨rfl, hY⟩) | (go_at_call 31; refine (HS2.out _ (by assumption)).mono ?_; rintro e w2 ⟨rfl, hZ⟩))
  have HZ := hZ.2.2.2.2.2.2
  obtain ⟨x0, x1, x2, y0, y1, y2, _⟩ := hZ
  have HF := Lib.hid HZ.out.2.2.2.2.2
  clear hY HS1 HS2 H0
  rcases hcase with ⟨hne, hv⟩ | ⟨rfl, rfl, rfl⟩ | ⟨rfl, hs, z, hz1, hz2, hx, hy, hz, hv⟩
  · have h1 : decide (s1 = s2) = false := decide_eq_false hne
    go_wp2_with fail
    refine (compare_l s1 s2 v w2 hv).mono ?_
    rintro e w' ⟨rfl, rfl⟩
    go_wp2
    go_ret
    exact ⟨rfl, HF.out⟩
  · go_wp2_with fail
    go_ret
    exact ⟨rfl, HF.out⟩
  · have Hsz := Lib.hid (sizes_l z g A n c xs e1 k B m d ys e2 w2 HZ.out.2.2.1 HZ.out.2.2.2.1 hn hm HZ.out.2.2.2.2.1 hx hy hz)
    clear hz hx hy
    rcases hs with rfl | rfl
    · obtain rfl : z = v := by omega
      go_wp2_with fail
      refine Hsz.out.mono ?_
      rintro e w3 ⟨rfl, hB3⟩
      have Hfin := Lib.hid (HF.out.trans (hB3.mono HF.out.size))
      clear hB3 Hsz HZ HF x0 x1 x2 y0 y1 y2
      go_wp2
      go_ret
      exact ⟨ret_int (by omega), Hfin.out⟩
    · obtain rfl : -z = v := by omega
      go_wp2_with fail
      refine Hsz.out.mono ?_
      rintro e w3 ⟨rfl, hB3⟩
      have Hfin := Lib.hid (HF.out.trans (hB3.mono HF.out.size))
      clear hB3 Hsz HZ HF x0 x1 x2 y0 y1 y2
      go_wp2
      go_ret
      exact ⟨ret_int (by omega), Hfin.out⟩
end Go.Proofs.YtafgooiakmmfkaaDoor
/- The walk of dyad.both. -/
namespace Go.Proofs.YtafgooiakmmfkaaDoor
open Go.RowKit

/-- Two dyads and an error. -/
def Told2 (w : World) (o1 o2 : Option Dy) (L1 L2 : Nat) (e : Ending) (w' : World) : Prop :=
  match o1, o2 with
  | some a, some b => ∃ A m c zs B p q us, e = .returned (.tuple #[.agg #[.bool a.neg, .slice A m c, .int .i64 a.e], .agg #[.bool b.neg, .slice B p q, .int .i64 b.e], .int .i64 0]) ∧ m ≤ L1 ∧ p ≤ L2 ∧ Lim w' A m c zs ∧ Lim w' B p q us ∧ Bare zs ∧ Bare us ∧ val zs = a.V ∧ val us = b.V ∧ Below w.heap.size w w'
  | _, _ => e = .returned (.tuple #[.agg #[.bool false, .slice none 0 0, .int .i64 0], .agg #[.bool false, .slice none 0 0, .int .i64 0], .int .i64 2]) ∧ Below w.heap.size w w'

set_option maxHeartbeats 4000000 in
theorem both_any (g : Bool) (A : Option Addr) (n c : Nat) (xs : List Nat) (e1 : Int) (k : Bool) (B : Option Addr) (m d : Nat) (ys : List Nat) (e2 : Int) (w : World) (hA : Lim w A n c xs) (hB : Lim w B m d ys) (hn : n ≤ 4294967296) (hm : m ≤ 4294967296) (hT : Tab w) :
    Calls Tryd.prog 54 #[.agg #[.bool g, .slice A n c, .int .i64 e1], .agg #[.bool k, .slice B m d, .int .i64 e2]] w (Told2 w (mk g (val xs) e1) (mk k (val ys) e2) n m) := by
  obtain ⟨W4, hW4⟩ : ∃ W4, (((w.alloc (.cells #[.bool g, .slice A n c, .int .i64 e1] 36)).alloc (.cells #[.bool k, .slice B m d, .int .i64 e2] 36)).alloc (.cells #[.bool false, .slice none 0 0, .int .i64 0] 36)).alloc (.cells #[.bool false, .slice none 0 0, .int .i64 0] 36) = W4 := ⟨_, rfl⟩
  have h0 := Held2.start w g A n c xs e1 k B m d ys e2 hA hB hT
  have b3 := (Bd.new ((w.alloc (.cells #[.bool g, .slice A n c, .int .i64 e1] 36)).alloc (.cells #[.bool k, .slice B m d, .int .i64 e2] 36)) 36 false none 0 0 0).alloc (.cells #[.bool false, .slice none 0 0, .int .i64 0] 36)
  have b4 := Bd.new (((w.alloc (.cells #[.bool g, .slice A n c, .int .i64 e1] 36)).alloc (.cells #[.bool k, .slice B m d, .int .i64 e2] 36)).alloc (.cells #[.bool false, .slice none 0 0, .int .i64 0] 36)) 36 false none 0 0 0
  rw [World.size_alloc, World.size_alloc] at b3
  rw [World.size_alloc, World.size_alloc, World.size_alloc] at b4
  have h4 : Held2 w w.heap.size g A n c xs e1 (w.heap.size + 1) k B m d ys e2 W4 := by rw [← hW4]; exact (h0.below (below1 _ _)).below (below1 _ _)
  rw [hW4] at b3 b4
  have H4 := Lib.hid h4
  have Hb3 : Hid (Bd W4 (w.heap.size + 1 + 1) 36 false none 0 0 0) := b3
  have Hb4 : Hid (Bd W4 (w.heap.size + 1 + 1 + 1) 36 false none 0 0 0) := b4
  have HC1 := Lib.hid (dbare_any g A n c xs e1 W4 h4.2.2.1 hn h4.2.2.2.2.1)
  have HW := Lib.hid hW4
  clear hA hB hT h0 h4 b3 b4 hW4
  go_enter Tryd.func54, Tryd.ntmps54
  go_wp2_with fail
  rw [HW.out]
  refine HC1.out.mono ?_
  rintro e w1 ⟨g1, A1, m1, c1, zs, E1, r1, rfl, hm1, hl1, hb1, his1, hB1⟩
  have H5 := Lib.hid (H4.out.below hB1)
  have Hb5 := Lib.hid (Hb3.out.below hB1)
  have Hb6 := Lib.hid (Hb4.out.below hB1)
  clear HC1 H4 Hb3 Hb4 HW hB1
  cases ho1 : mk g (val xs) e1 with
  | none =>
    rw [ho1] at his1
    obtain ⟨rfl, rfl, hz, rfl⟩ := his1
    have x0 := fun o => (Hb5.out.alloc o).c0
    have x1 := fun o => (Hb5.out.alloc o).c1
    have x2 := fun o => (Hb5.out.alloc o).c2
    have xf := fun o => (Hb5.out.alloc o).fz
    have y0 := fun o => (Hb6.out.alloc o).c0
    have y1 := fun o => (Hb6.out.alloc o).c1
    have y2 := fun o => (Hb6.out.alloc o).c2
    have yf := fun o => (Hb6.out.alloc o).fz
    have Hfin : Hid (Told2 w (mk g (val xs) e1) (mk k (val ys) e2) n m (.returned (.tuple #[.agg #[.bool false, .slice none 0 0, .int .i64 0], .agg #[.bool false, .slice none 0 0, .int .i64 0], .int .i64 2])) (World.put (World.put (w1.alloc (.cells #[.bool false, .slice A1 m1 c1, .int .i64 0] 36)) (w.heap.size + 1 + 1) false none 0 0 0) (w.heap.size + 1 + 1 + 1) false none 0 0 0)) := by
      rw [ho1]
      refine ⟨rfl, below_put (below_put (H5.out.2.2.2.2.2.alloc H5.out.2.2.2.2.2.size _) (by omega) _ _ _ _ _) (by omega) _ _ _ _ _⟩
    clear hl1 hb1 H5 Hb5 Hb6 hz ho1
    go_wp2
    exact bodyPost_ret (v := .tuple #[.agg #[.bool false, .slice none 0 0, .int .i64 0], .agg #[.bool false, .slice none 0 0, .int .i64 0], .int .i64 2]) (by simp [results, Tryd.results54, go_sem, x0, x1, x2, y0, y1, y2]) rfl Hfin.out
  | some a =>
    rw [ho1] at his1
    obtain ⟨rfl, rfl, hz1, rfl⟩ := his1
    have hs2 := Hb5.out.lt
    have hs3 := Hb6.out.lt
    have Hb7 := Lib.hid (Bd.new w1 36 a.neg A1 m1 c1 a.e)
    have HL1 := Lib.hid (hl1.alloc (.cells #[.bool a.neg, .slice A1 m1 c1, .int .i64 a.e] 36))
    have Hz1 : Hid (Bare zs ∧ val zs = a.V) := ⟨hb1, hz1⟩
    replace H5 := Lib.hid (H5.out.below (below1 _ (.cells #[.bool a.neg, .slice A1 m1 c1, .int .i64 a.e] 36)))
    replace Hb5 := Lib.hid (Hb5.out.alloc (.cells #[.bool a.neg, .slice A1 m1 c1, .int .i64 a.e] 36))
    replace Hb6 := Lib.hid (Hb6.out.alloc (.cells #[.bool a.neg, .slice A1 m1 c1, .int .i64 a.e] 36))
    have x0 := H5.out.2.1.c0
    have x1 := H5.out.2.1.c1
    have x2 := H5.out.2.1.c2
    have Ho1 := Lib.hid ho1
    clear hl1 hb1 hz1 ho1
    go_wp2_with fail
    refine (dbare_any k B m d ys e2 _ H5.out.2.2.2.1 hm H5.out.2.2.2.2.1).mono ?_
    rintro e w2 ⟨g2, A2, m2, c2, us, E2, r2, rfl, hm2, hl2, hb2, his2, hB2⟩
    replace H5 := Lib.hid (H5.out.below hB2)
    replace Hb5 := Lib.hid (Hb5.out.below hB2)
    replace Hb6 := Lib.hid (Hb6.out.below hB2)
    replace Hb7 := Lib.hid (Hb7.out.below hB2)
    replace HL1 := Lib.hid (HL1.out.below hB2)
    clear hB2 x0 x1 x2
    have x0 := fun o => (Hb5.out.alloc o).c0
    have x1 := fun o => (Hb5.out.alloc o).c1
    have x2 := fun o => (Hb5.out.alloc o).c2
    have xf := fun o => (Hb5.out.alloc o).fz
    have y0 := fun o => (Hb6.out.alloc o).c0
    have y1 := fun o => (Hb6.out.alloc o).c1
    have y2 := fun o => (Hb6.out.alloc o).c2
    have yf := fun o => (Hb6.out.alloc o).fz
    cases ho2 : mk k (val ys) e2 with
    | none =>
      rw [ho2] at his2
      obtain ⟨rfl, rfl, hz2, rfl⟩ := his2
      have Hfin : Hid (Told2 w (mk g (val xs) e1) (mk k (val ys) e2) n m (.returned (.tuple #[.agg #[.bool false, .slice none 0 0, .int .i64 0], .agg #[.bool false, .slice none 0 0, .int .i64 0], .int .i64 2])) (World.put (World.put (w2.alloc (.cells #[.bool false, .slice A2 m2 c2, .int .i64 0] 36)) (w.heap.size + 1 + 1) false none 0 0 0) (w.heap.size + 1 + 1 + 1) false none 0 0 0)) := by
        rw [Ho1.out, ho2]
        refine ⟨rfl, below_put (below_put (H5.out.2.2.2.2.2.alloc H5.out.2.2.2.2.2.size _) (by omega) _ _ _ _ _) (by omega) _ _ _ _ _⟩
      clear hl2 hb2 H5 Hb5 Hb6 hz2 ho2 Hb7 HL1 Hz1
      go_wp2
      exact bodyPost_ret (v := .tuple #[.agg #[.bool false, .slice none 0 0, .int .i64 0], .agg #[.bool false, .slice none 0 0, .int .i64 0], .int .i64 2]) (by simp [results, Tryd.results54, go_sem, x0, x1, x2, y0, y1, y2]) rfl Hfin.out
    | some b =>
      rw [ho2] at his2
      obtain ⟨rfl, rfl, hz2, rfl⟩ := his2
      have k7 := Hb7.out.alloc (.cells #[.bool b.neg, .slice A2 m2 c2, .int .i64 b.e] 36)
      have k8 := Bd.new w2 36 b.neg A2 m2 c2 b.e
      have k5 := Hb5.out.alloc (.cells #[.bool b.neg, .slice A2 m2 c2, .int .i64 b.e] 36)
      have k6 := Hb6.out.alloc (.cells #[.bool b.neg, .slice A2 m2 c2, .int .i64 b.e] 36)
      have hlt := Hb7.out.lt
      have f7 := k7.other (b' := w.heap.size + 1 + 1) (by omega) a.neg A1 m1 c1 a.e
      have f8 := k8.other (b' := w.heap.size + 1 + 1) (by omega) a.neg A1 m1 c1 a.e
      have f6 := k6.other (b' := w.heap.size + 1 + 1) (by omega) a.neg A1 m1 c1 a.e
      have g7 := f7.other (b' := w.heap.size + 1 + 1 + 1) (by omega) b.neg A2 m2 c2 b.e
      have g8 := f8.other (b' := w.heap.size + 1 + 1 + 1) (by omega) b.neg A2 m2 c2 b.e
      have Hfin : Hid (Told2 w (mk g (val xs) e1) (mk k (val ys) e2) n m (.returned (.tuple #[.agg #[.bool a.neg, .slice A1 m1 c1, .int .i64 a.e], .agg #[.bool b.neg, .slice A2 m2 c2, .int .i64 b.e], .int .i64 0])) (World.put (World.put (w2.alloc (.cells #[.bool b.neg, .slice A2 m2 c2, .int .i64 b.e] 36)) (w.heap.size + 1 + 1) a.neg A1 m1 c1 a.e) (w.heap.size + 1 + 1 + 1) b.neg A2 m2 c2 b.e).drew) := by
        rw [Ho1.out, ho2]
        exact ⟨A1, m1, c1, zs, A2, m2, c2, us, rfl, hm1, hm2, (f6.lim (k5.lim (HL1.out.alloc _) _ _ _ _ _) _ _ _ _ _).drew, (f6.lim (k5.lim (hl2.alloc _) _ _ _ _ _) _ _ _ _ _).drew, Hz1.out.1, hb2, Hz1.out.2, hz2, (below_put (below_put (H5.out.2.2.2.2.2.alloc H5.out.2.2.2.2.2.size _) (by omega) _ _ _ _ _) (by omega) _ _ _ _ _).drew⟩
      have K0 := Lib.hid (k7.drew.six k8.drew)
      have K1 := Lib.hid (f7.drew.six f8.drew)
      have K2 := Lib.hid (g7.drew.six g8.drew)
      clear hl2 hb2 H5 Hb5 Hb6 hz2 ho2 Hb7 HL1 Hz1 Ho1 k5 k6 k7 k8 f6 f7 f8 g7 g8
      go_wp2_with fail
      go_region_held3 (fun w' => w'.cell? ⟨w1.heap.size, 0, none⟩ = some (.bool a.neg) ∧ w'.cell? ⟨w1.heap.size, 1, none⟩ = some (.slice A1 m1 c1) ∧ w'.cell? ⟨w1.heap.size, 2, none⟩ = some (.int .i64 a.e) ∧ w'.cell? ⟨w2.heap.size, 0, none⟩ = some (.bool b.neg) ∧ w'.cell? ⟨w2.heap.size, 1, none⟩ = some (.slice A2 m2 c2) ∧ w'.cell? ⟨w2.heap.size, 2, none⟩ = some (.int .i64 b.e))
        (first | with_reducible exact K0.out | with_reducible exact K1.out | with_reducible exact K2.out) (fail)
      go_wp2_with fail
      (exact bodyPost_ret (v := .tuple #[.agg #[.bool a.neg, .slice A1 m1 c1, .int .i64 a.e], .agg #[.bool b.neg, .slice A2 m2 c2, .int .i64 b.e], .int .i64 0]) (by simp [results, Tryd.results54, go_sem, x0, x1, x2, y0, y1, y2]) rfl Hfin.out)
end Go.Proofs.YtafgooiakmmfkaaDoor
/- The walks of dyad.down and apart. -/
namespace Go.Proofs.YtafgooiakmmfkaaDoor
open Go.RowKit

/-- A dyad alone. -/
def Tells1 (w : World) (g : Bool) (V L : Nat) (E : Int) (e : Ending) (w' : World) : Prop :=
  ∃ A m c zs, e = .returned (.agg #[.bool g, .slice A m c, .int .i64 E]) ∧ m ≤ L ∧ Lim w' A m c zs ∧ Bare zs ∧ val zs = V ∧ Below w.heap.size w w'

set_option maxHeartbeats 2000000 in
theorem down_any (g : Bool) (A : Option Addr) (n c : Nat) (xs : List Nat) (e1 lo : Int) (q : Nat) (w : World) (hA : Lim w A n c xs) (hn : n ≤ 1000000) (hq : e1 - lo = (q : Int)) (hfit : blen (val xs) + q ≤ 65536) :
    Calls Tryd.prog 56 #[.agg #[.bool g, .slice A n c, .int .i64 e1], .int .i64 lo] w (Tells1 w g (val xs * 2 ^ q) (q + n + 1) lo) := by
  have a3 : Below w.heap.size w ((w.alloc (.cells #[.bool g, .slice A n c, .int .i64 e1] 36)).alloc (.cells #[.bool false, .slice none 0 0, .int .i64 0] 36)) := ((Below.refl _ _).alloc (Nat.le_refl _) _).alloc (by simp) _
  have H1 := Lib.hid (shl_all A n c xs _ (hA.below a3) (by omega) q (Or.inl hfit))
  have b1 := (Bd.new w 36 g A n c e1).alloc (.cells #[.bool false, .slice none 0 0, .int .i64 0] 36)
  have b2 := Bd.new (w.alloc (.cells #[.bool g, .slice A n c, .int .i64 e1] 36)) 36 false none 0 0 0
  rw [World.size_alloc] at b2
  have Hb1 := Lib.hid b1
  have Hb2 := Lib.hid b2
  have HS := Lib.hid a3
  have hq9 : q ≤ 65536 := by omega
  clear hA a3 b1 b2 hfit
  go_enter Tryd.func56, Tryd.ntmps56
  go_wp2_with fail
  refine H1.out.mono ?_
  rintro e w1 ⟨A1, m1, c1, zs, rfl, hm1, hl1, hb1, hv1, hB1⟩
  have k1 := Hb1.out.below hB1
  have k2 := Hb2.out.below hB1
  have Hfin : Hid (Tells1 w g (val xs * 2 ^ q) (q + n + 1) lo (.returned (.agg #[.bool g, .slice A1 m1 c1, .int .i64 lo])) (World.put w1 (w.heap.size + 1) g A1 m1 c1 lo)) :=
    ⟨A1, m1, c1, zs, rfl, hm1, k2.lim hl1 _ _ _ _ _, hb1, hv1, below_put (HS.out.trans (hB1.mono HS.out.size)) (Nat.le_succ _) _ _ _ _ _⟩
  have x0 := k1.c0
  have y0 := k2.c0
  have y1 := k2.c1
  have y2 := k2.c2
  have yf := k2.fz
  clear k1 k2 hB1 hl1 hb1 hv1 H1 Hb1 Hb2 HS
  go_wp2
  exact bodyPost_ret (v := .agg #[.bool g, .slice A1 m1 c1, .int .i64 lo]) (by simp [results, Tryd.results56, go_sem, y0, y1, y2]) rfl Hfin.out

theorem cmp_neg {x y : Nat} : (x < y ∧ cmpZ x y = -1) ∨ (y ≤ x ∧ 0 ≤ cmpZ x y) := by
  rcases Nat.lt_or_ge x y with h | h
  · exact Or.inl ⟨h, cmpZ_lt h⟩
  · exact Or.inr ⟨h, cmpZ_nonneg h⟩

set_option maxHeartbeats 4000000 in
theorem apart_any (g : Bool) (A : Option Addr) (n c : Nat) (xs : List Nat) (k : Bool) (B : Option Addr) (m d : Nat) (ys : List Nat) (lo : Int) (w : World) (hA : Lim w A n c xs) (hB : Lim w B m d ys) (hn : n ≤ 1000000) (hm : m ≤ 1000000) (hT : Tab w) (o : Option Dy) (ho : Hid ((if val xs < val ys then mk k (val ys - val xs) lo else mk g (val xs - val ys) lo) = o)) :
    Calls Tryd.prog 59 #[.agg #[.bool g, .slice A n c, .int .i64 lo], .agg #[.bool k, .slice B m d, .int .i64 lo]] w
      (Told w o (max n m)) := by
  have h0 := Held2.start w g A n c xs lo k B m d ys lo hA hB hT
  have h4 := h0.below (below1 _ (.cells #[.bool false, .slice none 0 0, .int .i64 0] 36))
  have b3 := Bd.new ((w.alloc (.cells #[.bool g, .slice A n c, .int .i64 lo] 36)).alloc (.cells #[.bool k, .slice B m d, .int .i64 lo] 36)) 36 false none 0 0 0
  rw [World.size_alloc, World.size_alloc] at b3
  obtain ⟨f, hf⟩ : ∃ f, cmpZ (val xs) (val ys) = f := ⟨_, rfl⟩
  have hcase := cmp_neg (x := val xs) (y := val ys)
  rw [hf] at hcase
  have HC := Lib.hid (cmp_b f A n c xs B m d ys _ h4.2.2.1 h4.2.2.2.1 (by omega) (by omega) hf)
  have H4 := Lib.hid h4
  have Hb3 := Lib.hid b3
  clear hA hB hT h0 h4 b3 hf
  rcases hcase with ⟨hlt, rfl⟩ | ⟨hge, hf0⟩
  · have Hif : Hid (mk k (val ys - val xs) lo = o) := by rw [← ho.out, if_pos hlt]; rfl
    clear ho
    go_enter Tryd.func59, Tryd.ntmps59
    go_wp2_with fail
    refine HC.out.mono ?_
    rintro e w1 ⟨rfl, hB1⟩
    obtain ⟨k1, k2, l1, l2, t1, s1⟩ := H4.out.below hB1
    have k3 := Hb3.out.below hB1
    have x0 := k1.c0
    have x1 := k1.c1
    have x2 := k1.c2
    have xf := k1.fz
    have y0 := k2.c0
    have y1 := k2.c1
    have y2 := k2.c2
    have yf := k2.fz
    have p1 := k1.put k B m d lo
    have p2 := k2.other (b' := w.heap.size) (by omega) k B m d lo
    have p3 := k3.other (b' := w.heap.size) (by omega) k B m d lo
    have q1 := p1.other (b' := w.heap.size + 1) (by omega) g A n c lo
    have q2 := p2.put g A n c lo
    have q3 := p3.other (b' := w.heap.size + 1) (by omega) g A n c lo
    have m1 := p2.lim (k1.lim l1 k B m d lo) g A n c lo
    have m2 := p2.lim (k1.lim l2 k B m d lo) g A n c lo
    have t2 := p2.tab (k1.tab t1 k B m d lo) g A n c lo
    have s2 := below_put (below_put s1 (b := w.heap.size) (Nat.le_refl _) k B m d lo) (b := w.heap.size + 1) (Nat.le_succ _) g A n c lo
    have HQ := Lib.hid (And.intro q1 (And.intro q3 (And.intro t2 s2)))
    have HD := Lib.hid (sub_any B m d ys A n c xs _ m2 m1 (by omega) (by omega) (Nat.le_of_lt hlt))
    clear k1 k2 k3 l1 l2 t1 s1 p1 p2 p3 q1 q2 q3 m1 m2 t2 s2 hB1 HC H4 Hb3 hlt
    go_wp2_with fail
    refine HD.out.mono ?_
    rintro e w2 ⟨A2, n2, c2, us, rfl, hm2, hl2, hb2, hv2, hB2⟩
    have k1 := HQ.out.1.below hB2
    have k3 := HQ.out.2.1.below hB2
    have HE := Lib.hid (make_any k A2 n2 c2 us lo w2 hl2 (by omega) (HQ.out.2.2.1.below hB2))
    rw [hv2, Hif.out] at HE
    have Hk3 := Lib.hid k3
    have HS2 := Lib.hid (HQ.out.2.2.2.trans (hB2.mono HQ.out.2.2.2.size))
    clear x0 x1 x2 xf y0 y1 y2 yf HQ HD hl2 hb2 hv2 hB2 k3
    have x0 := k1.c0
    have x2 := k1.c2
    clear k1
    go_wp2_with fail
    refine HE.out.mono ?_
    rintro e w3 ⟨g3, A3, m3, c3, zs, E, r, rfl, hm3, hl3, hb3, his, hB3⟩
    have k3 := Hk3.out.below hB3
    have Hfin : Hid (Told w o (max n m) (.returned (.tuple #[.agg #[.bool g3, .slice A3 m3 c3, .int .i64 E], .int .i64 r])) (World.put w3 (w.heap.size + 1 + 1) g3 A3 m3 c3 E)) :=
      ⟨g3, A3, m3, c3, zs, E, r, rfl, by omega, k3.lim hl3 _ _ _ _ _, hb3, his, below_put (HS2.out.trans (hB3.mono HS2.out.size)) (by omega) _ _ _ _ _⟩
    clear x0 x2
    have y0 := k3.c0
    have y1 := k3.c1
    have y2 := k3.c2
    have yf := k3.fz
    clear k3 Hk3 HS2 HE hl3 hb3 his hB3 Hif
    go_wp2
    exact bodyPost_ret (v := .tuple #[.agg #[.bool g3, .slice A3 m3 c3, .int .i64 E], .int .i64 r]) (by simp [results, Tryd.results59, go_sem, y0, y1, y2]) rfl Hfin.out
  · have Hif : Hid (mk g (val xs - val ys) lo = o) := by rw [← ho.out, if_neg (by omega)]; rfl
    have hf1 : decide (f < 0) = false := decide_eq_false (by omega)
    clear ho
    go_enter Tryd.func59, Tryd.ntmps59
    go_wp2_with fail
    refine HC.out.mono ?_
    rintro e w1 ⟨rfl, hB1⟩
    obtain ⟨k1, k2, l1, l2, t1, s1⟩ := H4.out.below hB1
    have k3 := Hb3.out.below hB1
    have x0 := k1.c0
    have x1 := k1.c1
    have x2 := k1.c2
    have y0 := k2.c0
    have y1 := k2.c1
    have y2 := k2.c2
    have HQ := Lib.hid (And.intro k1 (And.intro k3 (And.intro t1 s1)))
    have HD := Lib.hid (sub_any A n c xs B m d ys _ l1 l2 (by omega) (by omega) hge)
    clear k1 k2 k3 l1 l2 t1 s1 hB1 HC H4 Hb3 hge
    go_wp2_with fail
    refine HD.out.mono ?_
    rintro e w2 ⟨A2, n2, c2, us, rfl, hm2, hl2, hb2, hv2, hB2⟩
    have k1 := HQ.out.1.below hB2
    have k3 := HQ.out.2.1.below hB2
    have HE := Lib.hid (make_any g A2 n2 c2 us lo w2 hl2 (by omega) (HQ.out.2.2.1.below hB2))
    rw [hv2, Hif.out] at HE
    have Hk3 := Lib.hid k3
    have HS2 := Lib.hid (HQ.out.2.2.2.trans (hB2.mono HQ.out.2.2.2.size))
    clear x0 x1 x2 y0 y1 y2 HQ HD hl2 hb2 hv2 hB2 k3
    have x0 := k1.c0
    have x2 := k1.c2
    clear k1
    go_wp2_with fail
    refine HE.out.mono ?_
    rintro e w3 ⟨g3, A3, m3, c3, zs, E, r, rfl, hm3, hl3, hb3, his, hB3⟩
    have k3 := Hk3.out.below hB3
    have Hfin : Hid (Told w o (max n m) (.returned (.tuple #[.agg #[.bool g3, .slice A3 m3 c3, .int .i64 E], .int .i64 r])) (World.put w3 (w.heap.size + 1 + 1) g3 A3 m3 c3 E)) :=
      ⟨g3, A3, m3, c3, zs, E, r, rfl, by omega, k3.lim hl3 _ _ _ _ _, hb3, his, below_put (HS2.out.trans (hB3.mono HS2.out.size)) (by omega) _ _ _ _ _⟩
    clear x0 x2
    have y0 := k3.c0
    have y1 := k3.c1
    have y2 := k3.c2
    have yf := k3.fz
    clear k3 Hk3 HS2 HE hl3 hb3 his hB3 Hif
    go_wp2
    exact bodyPost_ret (v := .tuple #[.agg #[.bool g3, .slice A3 m3 c3, .int .i64 E], .int .i64 r]) (by simp [results, Tryd.results59, go_sem, y0, y1, y2]) rfl Hfin.out
end Go.Proofs.YtafgooiakmmfkaaDoor
/- The walk of dyad.Add. -/
namespace Go.Proofs.YtafgooiakmmfkaaDoor
open Go.RowKit

/-- While a sum is made: both dyads in their blocks, the result's block. -/
def Held3 (w0 : World) (b1 : Nat) (g : Bool) (A : Option Addr) (n c : Nat) (xs : List Nat) (e1 : Int) (b2 : Nat) (k : Bool) (B : Option Addr) (m d : Nat) (ys : List Nat) (e2 : Int) (b3 : Nat) (w : World) : Prop :=
  Held2 w0 b1 g A n c xs e1 b2 k B m d ys e2 w ∧ Bd w b3 36 false none 0 0 0
theorem Held3.below {w0 : World} {b1 : Nat} {g : Bool} {A : Option Addr} {n c : Nat} {xs : List Nat} {e1 : Int} {b2 : Nat} {k : Bool} {B : Option Addr} {m d : Nat} {ys : List Nat} {e2 : Int} {b3 : Nat} {w w' : World}
    (h : Held3 w0 b1 g A n c xs e1 b2 k B m d ys e2 b3 w) (hb : Below w.heap.size w w') : Held3 w0 b1 g A n c xs e1 b2 k B m d ys e2 b3 w' := ⟨h.1.below hb, h.2.below hb⟩
/-- Both blocks turned. -/
theorem Held3.turn {w0 : World} {b1 : Nat} {g : Bool} {A : Option Addr} {n c : Nat} {xs : List Nat} {e1 : Int} {b2 : Nat} {k : Bool} {B : Option Addr} {m d : Nat} {ys : List Nat} {e2 : Int} {b3 : Nat} {w : World}
    (h : Held3 w0 b1 g A n c xs e1 b2 k B m d ys e2 b3 w) (h1 : w0.heap.size ≤ b1) (h12 : b1 < b2) (h23 : b2 < b3)
    {g' : Bool} {A' : Option Addr} {n' c' : Nat} {xs' : List Nat} {e1' : Int} {k' : Bool} {B' : Option Addr} {m' d' : Nat} {ys' : List Nat} {e2' : Int} (hA : Lim w A' n' c' xs') (hB : Lim w B' m' d' ys') :
    Held3 w0 b1 g' A' n' c' xs' e1' b2 k' B' m' d' ys' e2' b3 (World.put (World.put w b1 g' A' n' c' e1') b2 k' B' m' d' e2') := by
  obtain ⟨⟨k1, k2, l1, l2, t1, s1⟩, k3⟩ := h
  have p2 := k2.other (b' := b1) (by omega) g' A' n' c' e1'
  exact ⟨⟨(k1.put g' A' n' c' e1').other (by omega) _ _ _ _ _, p2.put _ _ _ _ _, p2.lim (k1.lim hA _ _ _ _ _) _ _ _ _ _, p2.lim (k1.lim hB _ _ _ _ _) _ _ _ _ _, p2.tab (k1.tab t1 _ _ _ _ _) _ _ _ _ _, below_put (below_put s1 h1 _ _ _ _ _) (by omega) _ _ _ _ _⟩, (k3.other (by omega) _ _ _ _ _).other (by omega) _ _ _ _ _⟩
theorem Held3.start (w : World) (g : Bool) (A : Option Addr) (n c : Nat) (xs : List Nat) (e1 : Int) (k : Bool) (B : Option Addr) (m d : Nat) (ys : List Nat) (e2 : Int) (hA : Lim w A n c xs) (hB : Lim w B m d ys) (hT : Tab w) :
    Held3 w w.heap.size g A n c xs e1 (w.heap.size + 1) k B m d ys e2 (w.heap.size + 1 + 1) (((w.alloc (.cells #[.bool g, .slice A n c, .int .i64 e1] 36)).alloc (.cells #[.bool k, .slice B m d, .int .i64 e2] 36)).alloc (.cells #[.bool false, .slice none 0 0, .int .i64 0] 36)) := by
  have b3 := Bd.new ((w.alloc (.cells #[.bool g, .slice A n c, .int .i64 e1] 36)).alloc (.cells #[.bool k, .slice B m d, .int .i64 e2] 36)) 36 false none 0 0 0
  rw [World.size_alloc, World.size_alloc] at b3
  exact ⟨(Held2.start w g A n c xs e1 k B m d ys e2 hA hB hT).below (below1 _ _), b3⟩

/-- The sum of two that aren't 0 and lie near. -/
theorem addB_near {a b : Dy} {lo : Int} {x y : Nat} (h1 : a.V ≠ 0) (h2 : b.V ≠ 0) (hlo : min a.e b.e = lo) (hx : a.V * 2 ^ (a.e - lo).toNat = x) (hy : b.V * 2 ^ (b.e - lo).toNat = y) (h : max ((blen a.V : Int) - 1 + a.e) ((blen b.V : Int) - 1 + b.e) - lo ≤ 65535) :
    addB a b = if a.neg = b.neg then mk a.neg (x + y) lo else if x < y then mk b.neg (y - x) lo else mk a.neg (x - y) lo := by
  unfold addB
  rw [if_neg h1, if_neg h2, hlo, if_neg (by omega), hx, hy]
theorem addB_far {a b : Dy} {lo : Int} (h1 : a.V ≠ 0) (h2 : b.V ≠ 0) (hlo : min a.e b.e = lo) (h : 65535 < max ((blen a.V : Int) - 1 + a.e) ((blen b.V : Int) - 1 + b.e) - lo) : addB a b = none := by
  unfold addB
  rw [if_neg h1, if_neg h2, hlo, if_pos h]

theorem Told2.part {w : World} {o1 o2 : Option Dy} {L1 L2 : Nat} {e : Ending} {w' : World} (h : Told2 w o1 o2 L1 L2 e w') :
    (∃ a b, o1 = some a ∧ o2 = some b) ∨ ((o1 = none ∨ o2 = none) ∧ e = .returned (.tuple #[.agg #[.bool false, .slice none 0 0, .int .i64 0], .agg #[.bool false, .slice none 0 0, .int .i64 0], .int .i64 2]) ∧ Below w.heap.size w w') := by
  cases o1 with
  | none => exact Or.inr ⟨Or.inl rfl, by cases o2 <;> exact h⟩
  | some a => cases o2 with
    | none => exact Or.inr ⟨Or.inr rfl, h⟩
    | some b => exact Or.inl ⟨a, b, rfl, rfl⟩
theorem addO_none {o1 o2 : Option Dy} (h : o1 = none ∨ o2 = none) : addO o1 o2 = none := by
  rcases h with rfl | rfl
  · cases o2 <;> rfl
  · cases o1 <;> rfl
theorem mulO_none {o1 o2 : Option Dy} (h : o1 = none ∨ o2 = none) : mulO o1 o2 = none := by
  rcases h with rfl | rfl
  · cases o2 <;> rfl
  · cases o1 <;> rfl
theorem is_zero : Is none false (val []) 0 2 := ⟨rfl, rfl, rfl, rfl⟩

set_option maxHeartbeats 4000000 in
theorem dadd_any (o : Option Dy) (g : Bool) (A : Option Addr) (n c : Nat) (xs : List Nat) (e1 : Int) (k : Bool) (B : Option Addr) (m d : Nat) (ys : List Nat) (e2 : Int) (w : World) (hA : Lim w A n c xs) (hB : Lim w B m d ys) (hn : n ≤ 400000) (hm : m ≤ 400000) (hT : Tab w) (ho : Hid (addO (mk g (val xs) e1) (mk k (val ys) e2) = o)) :
    Calls Tryd.prog 28 #[.agg #[.bool g, .slice A n c, .int .i64 e1], .agg #[.bool k, .slice B m d, .int .i64 e2]] w (Told w o (max n m + 65540)) := by
  have h4 := Held3.start w g A n c xs e1 k B m d ys e2 hA hB hT
  have HC := Lib.hid (both_any g A n c xs e1 k B m d ys e2 _ h4.1.2.2.1 h4.1.2.2.2.1 (by omega) (by omega) h4.1.2.2.2.2.1)
  have H4 := Lib.hid h4
  clear hA hB hT h4
  go_enter Tryd.func28, Tryd.ntmps28
  go_wp2_with fail
  refine HC.out.mono ?_
  clear HC
  intro e w1 hT2
  rcases hT2.part with ⟨a, b, h1, h2⟩ | ⟨hno, he, hB1⟩
  case inr =>
    obtain rfl : o = none := by rw [← ho.out]; exact addO_none hno
    clear hT2 hno ho
    subst he
    have HQ := Lib.hid ((H4.out.below hB1).turn (e1' := 0) (e2' := 0) (g' := false) (k' := false) (Nat.le_refl _) (by omega) (by omega) (Lim.nil _ none 0) (Lim.nil _ none 0))
    obtain ⟨⟨k1, k2, _, _, _, _⟩, k3⟩ := H4.out.below hB1
    have x0 := k1.c0
    have x1 := k1.c1
    have x2 := k1.c2
    have xf := k1.fz
    have y0 := k2.c0
    have y1 := k2.c1
    have y2 := k2.c2
    have yf := k2.fz
    have z0 := k3.c0
    have z1 := k3.c1
    have z2 := k3.c2
    have zf := k3.fz
    have Hfin : Hid (Told w none (max n m + 65540) (.returned (.tuple #[.agg #[.bool false, .slice none 0 0, .int .i64 0], .int .i64 2])) (World.put (World.put (World.put w1 w.heap.size false none 0 0 0) (w.heap.size + 1) false none 0 0 0) (w.heap.size + 1 + 1) false none 0 0 0)) :=
      ⟨false, none, 0, 0, [], 0, 2, rfl, Nat.zero_le _, Lim.nil _ _ _, rfl, is_zero, below_put HQ.out.1.2.2.2.2.2 (by omega) _ _ _ _ _⟩
    clear k1 k2 k3 H4 hB1 HQ
    go_wp2
    exact bodyPost_ret (v := .tuple #[.agg #[.bool false, .slice none 0 0, .int .i64 0], .int .i64 2]) (by simp [results, Tryd.results28, go_sem, z0, z1, z2]) rfl Hfin.out
  case inl =>
    rw [h1, h2] at hT2 ho
    obtain ⟨A1, m1, c1, zs, B1, p1, q1, us, rfl, hm1, hp1, hl1, hl2, hb1, hb2, hv1, hv2, hB1⟩ := hT2
    have f1 := (mk_fine h1).1
    have f2 := (mk_fine h2).1
    have HQ := Lib.hid ((H4.out.below hB1).turn (e1' := a.e) (e2' := b.e) (g' := a.neg) (k' := b.neg) (Nat.le_refl _) (by omega) (by omega) hl1 hl2)
    have HF : Hid (Fine a ∧ Fine b) := ⟨f1, f2⟩
    have HV : Hid ((Bare zs ∧ val zs = a.V) ∧ Bare us ∧ val us = b.V) := ⟨⟨hb1, hv1⟩, hb2, hv2⟩
    obtain ⟨⟨k1, k2, _, _, _, _⟩, k3⟩ := H4.out.below hB1
    have x0 := k1.c0
    have x1 := k1.c1
    have x2 := k1.c2
    have xf := k1.fz
    have y0 := k2.c0
    have y1 := k2.c1
    have y2 := k2.c2
    have yf := k2.fz
    have z0 := k3.c0
    have z1 := k3.c1
    have z2 := k3.c2
    have zf := k3.fz
    obtain ⟨s1, hs1⟩ : ∃ s, sgD a.neg a.V = s := ⟨_, rfl⟩
    obtain ⟨s2, hs2⟩ : ∃ s, sgD b.neg b.V = s := ⟨_, rfl⟩
    have HS1 := Lib.hid (sign_l s1 a.neg A1 m1 c1 zs a.e _ HQ.out.1.2.2.1 (by omega) (by rw [hv1]; exact hs1))
    clear k1 k2 k3 hl1 hl2 hb1 hb2 hv1 hv2 hB1 H4 h1 h2 f1 f2
    by_cases ha0 : a.V = 0
    · obtain rfl : o = some b := by rw [← ho.out]; show addB a b = some b; rw [addB, if_pos ha0]
      obtain rfl : s1 = 0 := by rw [← hs1, ha0]; rfl
      go_wp2_with fail
      refine HS1.out.mono ?_
      rintro e w2 ⟨rfl, hB2⟩
      replace HQ := Lib.hid (HQ.out.below hB2)
      clear x0 x1 x2 xf y0 y1 y2 yf z0 z1 z2 zf hB2 HS1 hs1 ho
      obtain ⟨⟨k1, k2, l1, l2, t1, s1⟩, k3⟩ := HQ.out
      have Hfin : Hid (Told w (some b) (max n m + 65540) (.returned (.tuple #[.agg #[.bool b.neg, .slice B1 p1 q1, .int .i64 b.e], .int .i64 0])) (World.put w2 (w.heap.size + 1 + 1) b.neg B1 p1 q1 b.e)) :=
        ⟨b.neg, B1, p1, q1, us, b.e, 0, rfl, by omega, k3.lim l2 _ _ _ _ _, HV.out.2.1, ⟨rfl, rfl, HV.out.2.2, rfl⟩, below_put s1 (by omega) _ _ _ _ _⟩
      have y0 := k2.c0
      have y1 := k2.c1
      have y2 := k2.c2
      have z0 := k3.c0
      have z1 := k3.c1
      have z2 := k3.c2
      have zf := k3.fz
      clear k1 k2 k3 l1 l2 t1 s1 HQ HV HF hs2
      go_wp2
      exact bodyPost_ret (v := .tuple #[.agg #[.bool b.neg, .slice B1 p1 q1, .int .i64 b.e], .int .i64 0]) (by simp [results, Tryd.results28, go_sem, z0, z1, z2]) rfl Hfin.out
    · have hs10 : s1 ≠ 0 := by rw [← hs1, sgD, if_neg ha0]; cases a.neg <;> decide
      have hs11 : decide (s1 = 0) = false := decide_eq_false hs10
      go_wp2_with fail
      refine HS1.out.mono ?_
      rintro e w2 ⟨rfl, hB2⟩
      replace HQ := Lib.hid (HQ.out.below hB2)
      have HS2 := Lib.hid (sign_l s2 b.neg B1 p1 q1 us b.e _ HQ.out.1.2.2.2.1 (by omega) (by rw [HV.out.2.2]; exact hs2))
      clear x0 x1 x2 xf y0 y1 y2 yf z0 z1 z2 zf hB2 HS1 hs1
      obtain ⟨⟨k1, k2, _, _, _, _⟩, k3⟩ := HQ.out
      have y0 := k2.c0
      have y1 := k2.c1
      have y2 := k2.c2
      clear k1 k2 k3
      by_cases hb0 : b.V = 0
      · obtain rfl : o = some a := by rw [← ho.out]; show addB a b = some a; rw [addB, if_neg ha0, if_pos hb0]
        obtain rfl : s2 = 0 := by rw [← hs2, hb0]; rfl
        go_wp2_with fail
        refine HS2.out.mono ?_
        rintro e w3 ⟨rfl, hB2⟩
        replace HQ := Lib.hid (HQ.out.below hB2)
        clear y0 y1 y2 hB2 HS2 hs2 ho
        obtain ⟨⟨k1, k2, l1, l2, t1, s2⟩, k3⟩ := HQ.out
        have Hfin : Hid (Told w (some a) (max n m + 65540) (.returned (.tuple #[.agg #[.bool a.neg, .slice A1 m1 c1, .int .i64 a.e], .int .i64 0])) (World.put w3 (w.heap.size + 1 + 1) a.neg A1 m1 c1 a.e)) :=
          ⟨a.neg, A1, m1, c1, zs, a.e, 0, rfl, by omega, k3.lim l1 _ _ _ _ _, HV.out.1.1, ⟨rfl, rfl, HV.out.1.2, rfl⟩, below_put s2 (by omega) _ _ _ _ _⟩
        have y0 := k1.c0
        have y1 := k1.c1
        have y2 := k1.c2
        have z0 := k3.c0
        have z1 := k3.c1
        have z2 := k3.c2
        have zf := k3.fz
        clear k1 k2 k3 l1 l2 t1 s2 HQ HV HF
        go_wp2
        exact bodyPost_ret (v := .tuple #[.agg #[.bool a.neg, .slice A1 m1 c1, .int .i64 a.e], .int .i64 0]) (by simp [results, Tryd.results28, go_sem, z0, z1, z2]) rfl Hfin.out
      · have hs20 : s2 ≠ 0 := by rw [← hs2, sgD, if_neg hb0]; cases b.neg <;> decide
        have hs21 : decide (s2 = 0) = false := decide_eq_false hs20
        go_wp2_with fail
        refine HS2.out.mono ?_
        rintro e w3 ⟨rfl, hB2⟩
        replace HQ := Lib.hid (HQ.out.below hB2)
        obtain ⟨lo, hlo⟩ : ∃ lo, min a.e b.e = lo := ⟨_, rfl⟩
        obtain ⟨t1, ht1⟩ : ∃ t, (blen a.V : Int) - 1 + a.e = t := ⟨_, rfl⟩
        obtain ⟨t2, ht2⟩ : ∃ t, (blen b.V : Int) - 1 + b.e = t := ⟨_, rfl⟩
        obtain ⟨tm, htm⟩ : ∃ t, max t1 t2 = t := ⟨_, rfl⟩
        have HT1 := Lib.hid (top_l t1 a.neg A1 m1 c1 zs a.e _ HQ.out.1.2.2.1 (by omega) (by rw [HV.out.1.2]; exact ha0) (by rw [topD, HV.out.1.2, HF.out.1.held]; exact ht1))
        clear y0 y1 y2 hB2 HS2 hs2
        obtain ⟨⟨k1, k2, l1, l2, _, _⟩, k3⟩ := HQ.out
        have x0 := k1.c0
        have x1 := k1.c1
        have x2 := k1.c2
        have y2 := k2.c2
        have bl1 := l1.blen_le
        have bl2 := l2.blen_le
        rw [HV.out.1.2] at bl1
        rw [HV.out.2.2] at bl2
        have bp1 := blen_pos ha0
        have bp2 := blen_pos hb0
        have fe1 := HF.out.1.1
        have fe2 := HF.out.1.2.1
        have fe3 := HF.out.2.1
        have fe4 := HF.out.2.2.1
        clear k1 k2 k3 l1 l2
        go_wp2_with fail
        refine HT1.out.mono ?_
        rintro e w4 ⟨rfl, hB2⟩
        replace HQ := Lib.hid (HQ.out.below hB2)
        have HT2 := Lib.hid (top_l t2 b.neg B1 p1 q1 us b.e _ HQ.out.1.2.2.2.1 (by omega) (by rw [HV.out.2.2]; exact hb0) (by rw [topD, HV.out.2.2, HF.out.2.held]; exact ht2))
        clear x0 x1 x2 y2 hB2 HT1
        obtain ⟨⟨k1, k2, l1, l2, _, _⟩, k3⟩ := HQ.out
        have y0 := k2.c0
        have y1 := k2.c1
        have y2 := k2.c2
        clear k1 k2 k3 l1 l2
        go_wp2_with fail
        refine HT2.out.mono ?_
        rintro e w5 ⟨rfl, hB2⟩
        replace HQ := Lib.hid (HQ.out.below hB2)
        clear y0 y1 y2 hB2 HT2
        have htb : tm - lo ≤ 2147483648 + 64 * 400000 ∧ -2147483648 ≤ tm - lo := by omega
        by_cases hfar : 65535 < tm - lo
        · obtain rfl : o = none := by rw [← ho.out]; exact addB_far ha0 hb0 hlo (by rw [ht1, ht2, htm]; exact hfar)
          have hfar' : decide (65535 < tm - lo) = true := decide_eq_true hfar
          obtain ⟨⟨k1, k2, l1, l2, t1', s1'⟩, k3⟩ := HQ.out
          have Hfin : Hid (Told w none (max n m + 65540) (.returned (.tuple #[.agg #[.bool false, .slice none 0 0, .int .i64 0], .int .i64 2])) (World.put w5 (w.heap.size + 1 + 1) false none 0 0 0)) :=
            ⟨false, none, 0, 0, [], 0, 2, rfl, Nat.zero_le _, Lim.nil _ _ _, rfl, is_zero, below_put s1' (by omega) _ _ _ _ _⟩
          have z0 := k3.c0
          have z1 := k3.c1
          have z2 := k3.c2
          have zf := k3.fz
          clear k1 k2 k3 l1 l2 t1' s1' HQ HV HF ho
          go_wp2
          exact bodyPost_ret (v := .tuple #[.agg #[.bool false, .slice none 0 0, .int .i64 0], .int .i64 2]) (by simp [results, Tryd.results28, go_sem, z0, z1, z2]) rfl Hfin.out
        · have hfar' : decide (65535 < tm - lo) = false := decide_eq_false hfar
          obtain ⟨d1, hd1⟩ : ∃ d1 : Nat, a.e - lo = (d1 : Int) := ⟨(a.e - lo).toNat, by omega⟩
          obtain ⟨d2, hd2⟩ : ∃ d2 : Nat, b.e - lo = (d2 : Int) := ⟨(b.e - lo).toNat, by omega⟩
          have hd1' : d1 ≤ 65535 := by omega
          have hd2' : d2 ≤ 65535 := by omega
          obtain ⟨x, hx⟩ : ∃ x, a.V * 2 ^ d1 = x := ⟨_, rfl⟩
          obtain ⟨y, hy⟩ : ∃ y, b.V * 2 ^ d2 = y := ⟨_, rfl⟩
          have Hsum : Hid ((if a.neg = b.neg then mk a.neg (x + y) lo else if x < y then mk b.neg (y - x) lo else mk a.neg (x - y) lo) = o) := by
            rw [← ho.out]
            exact (addB_near ha0 hb0 hlo (by rw [← hx, hd1]; rfl) (by rw [← hy, hd2]; rfl) (by rw [ht1, ht2, htm]; omega)).symm
          have HD1 : Hid (∀ u, Held3 w w.heap.size a.neg A1 m1 c1 zs a.e (w.heap.size + 1) b.neg B1 p1 q1 us b.e (w.heap.size + 1 + 1) u → Calls Tryd.prog 56 #[.agg #[.bool a.neg, .slice A1 m1 c1, .int .i64 a.e], .int .i64 lo] u (Tells1 u a.neg x (d1 + m1 + 1) lo)) := fun u hu => by
            have := down_any a.neg A1 m1 c1 zs a.e lo d1 u hu.1.2.2.1 (by omega) hd1 (by rw [HV.out.1.2]; omega)
            rw [HV.out.1.2, hx] at this
            exact this
          have HD2 : Hid (∀ u, Held3 w w.heap.size a.neg A1 m1 c1 zs a.e (w.heap.size + 1) b.neg B1 p1 q1 us b.e (w.heap.size + 1 + 1) u → Calls Tryd.prog 56 #[.agg #[.bool b.neg, .slice B1 p1 q1, .int .i64 b.e], .int .i64 lo] u (Tells1 u b.neg y (d2 + p1 + 1) lo)) := fun u hu => by
            have := down_any b.neg B1 p1 q1 us b.e lo d2 u hu.1.2.2.2.1 (by omega) hd2 (by rw [HV.out.2.2]; omega)
            rw [HV.out.2.2, hy] at this
            exact this
          have HQd := Lib.hid (HQ.out.below (below_drew _))
          obtain ⟨⟨k1, k2, _, _, _, _⟩, _⟩ := HQ.out
          have x0 := k1.c0
          have x1 := k1.c1
          have x2 := k1.c2
          have y0 := k2.c0
          have y1 := k2.c1
          have y2 := k2.c2
          clear k1 k2 HQ HV HF ho hx hy ht1 ht2
          go_wp2_with fail
          go_region_with (first | (go_at_call 56; (with_reducible refine (HD1.out _ HQd.out).mono ?_); rintro e w6 ⟨A6, m6, c6, vs, rfl, hm6, hl6, hb6, hv6, hB6⟩; have HQ6 := Lib.hid (HQd.out.below hB6); have y60 := HQ6.out.1.2.1.c0; have y61 := HQ6.out.1.2.1.c1; have y62 := HQ6.out.1.2.1.c2) | (go_at_call 56; (with_reducible refine (HD2.out _ HQ6.out).mono ?_); rintro e w7 ⟨A7, m7, c7, ws, rfl, hm7, hl7, hb7, hv7, hB7⟩; have HQ7 := Lib.hid (HQ6.out.below hB7); have x70 := HQ7.out.1.1.c0; have x71 := HQ7.out.1.1.c1; have x72 := HQ7.out.1.1.c2; have x7f := HQ7.out.1.1.fz; have y70 := HQ7.out.1.2.1.c0; have y71 := HQ7.out.1.2.1.c1; have y72 := HQ7.out.1.2.1.c2; have y7f := HQ7.out.1.2.1.fz))
          all_goals (
            have HT7 := Lib.hid (HQ7.out.turn (e1' := lo) (e2' := lo) (g' := a.neg) (k' := b.neg) (Nat.le_refl _) (by omega) (by omega) (hl6.below hB7) hl7)
            have HV7 : Hid (val vs = x ∧ val ws = y) := ⟨hv6, hv7⟩
            clear hl6 hb6 hv6 hB6 HQ6 y60 y61 y62 hl7 hb7 hv7 hB7 HQ7 HQd HD1 HD2 x0 x1 x2 y0 y1 y2
            generalize a.neg = ga at HT7 Hsum x70 ⊢
            generalize b.neg = gb at HT7 Hsum y70 ⊢
            by_cases hsg : ga = gb
            · have Hmk : Hid (mk ga (x + y) lo = o) := by rw [← Hsum.out, if_pos hsg]; rfl
              subst hsg
              have HTd := Lib.hid (HT7.out.below (below_drew _))
              have HA8 := Lib.hid (add_any A6 m6 c6 vs A7 m7 c7 ws _ HTd.out.1.2.2.1 HTd.out.1.2.2.2.1 (by omega) (by omega))
              rw [HV7.out.1, HV7.out.2] at HA8
              have K0 := Lib.hid (And.intro HTd.out.1.1.c0 (And.intro HTd.out.1.1.c1 HTd.out.1.2.1.c1))
              go_wp2_with fail
              go_region_held3 (fun w' => w'.cell? ⟨w.heap.size, 0, none⟩ = some (.bool ga) ∧ w'.cell? ⟨w.heap.size, 1, none⟩ = some (.slice A6 m6 c6) ∧ w'.cell? ⟨w.heap.size + 1, 1, none⟩ = some (.slice A7 m7 c7)) (first | (with_reducible exact K0.out) | (with_reducible exact K8.out) | (with_reducible exact K9.out) | (with_reducible exact K10.out)) (first | (go_at_call 58; (with_reducible refine HA8.out.mono ?_); rintro e w8 ⟨A8, m8, c8, ts, rfl, hm8, hl8, hb8, hv8, hB8⟩; have HQ8 := Lib.hid (HTd.out.below hB8); have K8 := Lib.hid (And.intro HQ8.out.1.1.c0 (And.intro HQ8.out.1.1.c1 HQ8.out.1.2.1.c1)); have HM8 := Lib.hid (make_any ga A8 m8 c8 ts lo w8 hl8 (by omega) HQ8.out.1.2.2.2.2.1); rw [hv8, Hmk.out] at HM8; clear hl8 hb8 hv8 hB8) | (go_at_call 57; (with_reducible refine HM8.out.mono ?_); rintro e w9 ⟨g9, A9, m9, c9, rs, E9, r9, rfl, hm9, hl9, hb9, his9, hB9⟩; have HQ9 := Lib.hid (HQ8.out.below hB9); have K9 := Lib.hid (And.intro HQ9.out.1.1.c0 (And.intro HQ9.out.1.1.c1 HQ9.out.1.2.1.c1)); have K10 := Lib.hid (And.intro (HQ9.out.1.1.other (b' := w.heap.size + 1 + 1) (by omega) g9 A9 m9 c9 E9).c0 (And.intro (HQ9.out.1.1.other (b' := w.heap.size + 1 + 1) (by omega) g9 A9 m9 c9 E9).c1 (HQ9.out.1.2.1.other (b' := w.heap.size + 1 + 1) (by omega) g9 A9 m9 c9 E9).c1)); have z0 := HQ9.out.2.c0; have z1 := HQ9.out.2.c1; have z2 := HQ9.out.2.c2; have zf := HQ9.out.2.fz))
              all_goals (
                have Hfin : Hid (Told w o (max n m + 65540) (.returned (.tuple #[.agg #[.bool g9, .slice A9 m9 c9, .int .i64 E9], .int .i64 r9])) (World.put w9 (w.heap.size + 1 + 1) g9 A9 m9 c9 E9)) :=
                  ⟨g9, A9, m9, c9, rs, E9, r9, rfl, by omega, HQ9.out.2.lim hl9 _ _ _ _ _, hb9, his9, below_put HQ9.out.1.2.2.2.2.2 (by omega) _ _ _ _ _⟩
                clear K0 K8 K9 K10 HA8 HM8 HQ8 HQ9 HTd HT7 hl9 hb9 his9 hB9
                go_wp2_with fail
                exact bodyPost_ret (v := .tuple #[.agg #[.bool g9, .slice A9 m9 c9, .int .i64 E9], .int .i64 r9]) (by simp [results, Tryd.results28, go_sem, z0, z1, z2]) rfl Hfin.out)
            · have Hap : Hid ((if val vs < val ws then mk gb (val ws - val vs) lo else mk ga (val vs - val ws) lo) = o) := by rw [HV7.out.1, HV7.out.2, ← Hsum.out, if_neg hsg]; rfl
              have hsg1 : (ga == gb) = false := by cases ga <;> cases gb <;> simp_all
              have HP := Lib.hid (apart_any ga A6 m6 c6 vs gb A7 m7 c7 ws lo _ HT7.out.1.2.2.1 HT7.out.1.2.2.2.1 (by omega) (by omega) HT7.out.1.2.2.2.2.1 o Hap)
              clear Hap Hsum
              go_wp2_with fail
              refine HP.out.mono ?_
              rintro e w9 ⟨g9, A9, m9, c9, rs, E9, r9, rfl, hm9, hl9, hb9, his9, hB9⟩
              have HQ9 := Lib.hid (HT7.out.below hB9)
              have z0 := HQ9.out.2.c0
              have z1 := HQ9.out.2.c1
              have z2 := HQ9.out.2.c2
              have zf := HQ9.out.2.fz
              have Hfin : Hid (Told w o (max n m + 65540) (.returned (.tuple #[.agg #[.bool g9, .slice A9 m9 c9, .int .i64 E9], .int .i64 r9])) (World.put w9 (w.heap.size + 1 + 1) g9 A9 m9 c9 E9)) :=
                ⟨g9, A9, m9, c9, rs, E9, r9, rfl, by omega, HQ9.out.2.lim hl9 _ _ _ _ _, hb9, his9, below_put HQ9.out.1.2.2.2.2.2 (by omega) _ _ _ _ _⟩
              clear HP HQ9 HT7 hl9 hb9 his9 hB9 x70 x71 x72 x7f y70 y71 y72 y7f
              go_wp2
              exact bodyPost_ret (v := .tuple #[.agg #[.bool g9, .slice A9 m9 c9, .int .i64 E9], .int .i64 r9]) (by simp [results, Tryd.results28, go_sem, z0, z1, z2]) rfl Hfin.out)
end Go.Proofs.YtafgooiakmmfkaaDoor
/- The walks of dyad.Mul and of dyad.Minus (where the dyad can be bare). -/
namespace Go.Proofs.YtafgooiakmmfkaaDoor
open Go.RowKit

set_option maxHeartbeats 4000000 in
theorem dmul_any (o : Option Dy) (g : Bool) (A : Option Addr) (n c : Nat) (xs : List Nat) (e1 : Int) (k : Bool) (B : Option Addr) (m d : Nat) (ys : List Nat) (e2 : Int) (w : World) (hA : Lim w A n c xs) (hB : Lim w B m d ys) (hn : n ≤ 1000000) (hm : m ≤ 1000000) (hT : Tab w) (ho : Hid (mulO (mk g (val xs) e1) (mk k (val ys) e2) = o)) :
    Calls Tryd.prog 29 #[.agg #[.bool g, .slice A n c, .int .i64 e1], .agg #[.bool k, .slice B m d, .int .i64 e2]] w (Told w o (n + m)) := by
  have h4 := Held3.start w g A n c xs e1 k B m d ys e2 hA hB hT
  have HC := Lib.hid (both_any g A n c xs e1 k B m d ys e2 _ h4.1.2.2.1 h4.1.2.2.2.1 (by omega) (by omega) h4.1.2.2.2.2.1)
  have H4 := Lib.hid h4
  clear hA hB hT h4
  go_enter Tryd.func29, Tryd.ntmps29
  go_wp2_with fail
  refine HC.out.mono ?_
  clear HC
  intro e w1 hT2
  rcases hT2.part with ⟨a, b, h1, h2⟩ | ⟨hno, he, hB1⟩
  case inr =>
    obtain rfl : o = none := by rw [← ho.out]; exact mulO_none hno
    clear hT2 hno ho
    subst he
    have HQ := Lib.hid ((H4.out.below hB1).turn (e1' := 0) (e2' := 0) (g' := false) (k' := false) (Nat.le_refl _) (by omega) (by omega) (Lim.nil _ none 0) (Lim.nil _ none 0))
    obtain ⟨⟨k1, k2, _, _, _, _⟩, k3⟩ := H4.out.below hB1
    have x0 := k1.c0
    have x1 := k1.c1
    have x2 := k1.c2
    have xf := k1.fz
    have y0 := k2.c0
    have y1 := k2.c1
    have y2 := k2.c2
    have yf := k2.fz
    have z0 := k3.c0
    have z1 := k3.c1
    have z2 := k3.c2
    have zf := k3.fz
    have Hfin : Hid (Told w none (n + m) (.returned (.tuple #[.agg #[.bool false, .slice none 0 0, .int .i64 0], .int .i64 2])) (World.put (World.put (World.put w1 w.heap.size false none 0 0 0) (w.heap.size + 1) false none 0 0 0) (w.heap.size + 1 + 1) false none 0 0 0)) :=
      ⟨false, none, 0, 0, [], 0, 2, rfl, Nat.zero_le _, Lim.nil _ _ _, rfl, is_zero, below_put HQ.out.1.2.2.2.2.2 (by omega) _ _ _ _ _⟩
    clear k1 k2 k3 H4 hB1 HQ
    go_wp2
    exact bodyPost_ret (v := .tuple #[.agg #[.bool false, .slice none 0 0, .int .i64 0], .int .i64 2]) (by simp [results, Tryd.results29, go_sem, z0, z1, z2]) rfl Hfin.out
  case inl =>
    rw [h1, h2] at hT2 ho
    obtain ⟨A1, m1, c1, zs, B1, p1, q1, us, rfl, hm1, hp1, hl1, hl2, hb1, hb2, hv1, hv2, hB1⟩ := hT2
    have f1 := (mk_fine h1).1
    have f2 := (mk_fine h2).1
    have HQ := Lib.hid ((H4.out.below hB1).turn (e1' := a.e) (e2' := b.e) (g' := a.neg) (k' := b.neg) (Nat.le_refl _) (by omega) (by omega) hl1 hl2)
    have fe1 := f1.1
    have fe2 := f1.2.1
    have fe3 := f2.1
    have fe4 := f2.2.1
    have Hmb : Hid (mulB a b = o) := ho
    have HVs : Hid (val zs = a.V ∧ val us = b.V) := ⟨hv1, hv2⟩
    obtain ⟨⟨k1, k2, _, _, _, _⟩, k3⟩ := H4.out.below hB1
    have x0 := k1.c0
    have x1 := k1.c1
    have x2 := k1.c2
    have xf := k1.fz
    have y0 := k2.c0
    have y1 := k2.c1
    have y2 := k2.c2
    have yf := k2.fz
    clear k1 k2 k3 hl1 hl2 hb1 hb2 hv1 hv2 hB1 H4 h1 h2 f1 f2 ho
    by_cases hlong : a.V ≠ 0 ∧ b.V ≠ 0 ∧ 65536 < blen a.V + blen b.V
    · obtain rfl : o = none := by rw [← Hmb.out, mulB, if_pos hlong]
      have HM := Lib.hid (mul_long A1 m1 c1 zs B1 p1 q1 us _ HQ.out.1.2.2.1 HQ.out.1.2.2.2.1 (by omega) (by omega) (by rw [HVs.out.1]; exact hlong.1) (by rw [HVs.out.2]; exact hlong.2.1) (by rw [HVs.out.1, HVs.out.2]; exact hlong.2.2))
      have Hfin : Hid (Told w none (n + m) (.returned (.tuple #[.agg #[.bool false, .slice none 0 0, .int .i64 0], .int .i64 2])) (World.put (World.put (World.put w1 w.heap.size a.neg A1 m1 c1 a.e) (w.heap.size + 1) b.neg B1 p1 q1 b.e) (w.heap.size + 1 + 1) false none 0 0 0)) :=
        ⟨false, none, 0, 0, [], 0, 2, rfl, Nat.zero_le _, Lim.nil _ _ _, rfl, is_zero, below_put HQ.out.1.2.2.2.2.2 (by omega) _ _ _ _ _⟩
      obtain ⟨_, k3⟩ := HQ.out
      have z0 := k3.c0
      have z1 := k3.c1
      have z2 := k3.c2
      have zf := k3.fz
      clear k3 HQ hlong Hmb HVs
      go_wp2_with fail
      refine HM.out.mono ?_
      rintro e w' ⟨rfl, rfl⟩
      go_wp2
      exact bodyPost_ret (v := .tuple #[.agg #[.bool false, .slice none 0 0, .int .i64 0], .int .i64 2]) (by simp [results, Tryd.results29, go_sem, z0, z1, z2]) rfl Hfin.out
    · have HM := Lib.hid (mul_any A1 m1 c1 zs B1 p1 q1 us _ HQ.out.1.2.2.1 HQ.out.1.2.2.2.1 (by omega) (by omega) (by rw [HVs.out.1, HVs.out.2]; omega))
      rw [HVs.out.1, HVs.out.2] at HM
      have Hto : Hid (toldD (a.neg != b.neg) (a.V * b.V) (a.e + b.e) = o) := by rw [← Hmb.out, mulB, if_neg hlong]; rfl
      clear hlong Hmb HVs
      generalize a.neg = ga at *
      generalize b.neg = gb at *
      replace Hto : Hid (toldD (!(ga == gb)) (a.V * b.V) (a.e + b.e) = o) := Hto
      obtain ⟨V, hV⟩ : ∃ V, a.V * b.V = V := ⟨_, rfl⟩
      rw [hV] at Hto HM
      clear hV
      go_wp2_with fail
      refine HM.out.mono ?_
      rintro e w2 ⟨A2, m2, c2, ts, rfl, hm2, hl2, hb2, hv2, hB2⟩
      have HQ2 := Lib.hid (HQ.out.below hB2)
      have HTd := Lib.hid (told_any (!(ga == gb)) A2 m2 c2 ts (a.e + b.e) w2 hl2 (by omega) hb2)
      rw [hv2, Hto.out] at HTd
      clear x0 x1 x2 xf y0 y1 y2 yf HM HQ hl2 hb2 hv2 hB2 Hto
      obtain ⟨⟨k1, k2, _, _, _, _⟩, k3⟩ := HQ2.out
      have x0 := k1.c0
      have x2 := k1.c2
      have y0 := k2.c0
      have y2 := k2.c2
      clear k1 k2 k3
      go_wp2_with fail
      refine HTd.out.mono ?_
      rintro e w9 ⟨g9, A9, m9, c9, rs, E9, r9, rfl, hm9, hl9, hb9, his9, hB9⟩
      have HQ9 := Lib.hid (HQ2.out.below hB9)
      have z0 := HQ9.out.2.c0
      have z1 := HQ9.out.2.c1
      have z2 := HQ9.out.2.c2
      have zf := HQ9.out.2.fz
      have Hfin : Hid (Told w o (n + m) (.returned (.tuple #[.agg #[.bool g9, .slice A9 m9 c9, .int .i64 E9], .int .i64 r9])) (World.put w9 (w.heap.size + 1 + 1) g9 A9 m9 c9 E9)) :=
        ⟨g9, A9, m9, c9, rs, E9, r9, rfl, by omega, HQ9.out.2.lim hl9 _ _ _ _ _, hb9, his9, below_put HQ9.out.1.2.2.2.2.2 (by omega) _ _ _ _ _⟩
      clear HTd HQ9 HQ2 hl9 hb9 his9 hB9 x0 x2 y0 y2
      go_wp2
      exact bodyPost_ret (v := .tuple #[.agg #[.bool g9, .slice A9 m9 c9, .int .i64 E9], .int .i64 r9]) (by simp [results, Tryd.results29, go_sem, z0, z1, z2]) rfl Hfin.out

set_option maxHeartbeats 4000000 in
theorem minus_any (b : Dy) (g : Bool) (A : Option Addr) (n c : Nat) (xs : List Nat) (e1 : Int) (w : World) (hA : Lim w A n c xs) (hn : n ≤ 1000000) (hT : Tab w) (ho : Hid (mk (!g) (val xs) e1 = some b)) :
    Calls Tryd.prog 40 #[.agg #[.bool g, .slice A n c, .int .i64 e1]] w (Tells1 w b.neg b.V n b.e) := by
  have a3 : Below w.heap.size w ((w.alloc (.cells #[.bool g, .slice A n c, .int .i64 e1] 36)).alloc (.cells #[.bool false, .slice none 0 0, .int .i64 0] 36)) := ((Below.refl _ _).alloc (Nat.le_refl _) _).alloc (by simp) _
  have H1 := Lib.hid (make_any (!g) A n c xs e1 _ (hA.below a3) (by omega) (hT.below a3))
  have b2 := Bd.new (w.alloc (.cells #[.bool g, .slice A n c, .int .i64 e1] 36)) 36 false none 0 0 0
  rw [World.size_alloc] at b2
  have Hb2 := Lib.hid b2
  have HS := Lib.hid a3
  rw [ho.out] at H1
  clear hA a3 b2 hT ho
  go_enter Tryd.func40, Tryd.ntmps40
  go_wp2_with fail
  refine H1.out.mono ?_
  rintro e w1 ⟨g1, A1, m1, c1, zs, E1, r1, rfl, hm1, hl1, hb1, ⟨rfl, rfl, hz, rfl⟩, hB1⟩
  have k2 := Hb2.out.below hB1
  have Hfin : Hid (Tells1 w b.neg b.V n b.e (.returned (.agg #[.bool b.neg, .slice A1 m1 c1, .int .i64 b.e])) (World.put (w1.alloc (.cells #[.bool b.neg, .slice A1 m1 c1, .int .i64 b.e] 36)) (w.heap.size + 1) b.neg A1 m1 c1 b.e)) :=
    ⟨A1, m1, c1, zs, rfl, hm1, (k2.alloc _).lim (hl1.alloc _) _ _ _ _ _, hb1, hz, below_put ((HS.out.trans (hB1.mono HS.out.size)).alloc (HS.out.trans (hB1.mono HS.out.size)).size _) (Nat.le_succ _) _ _ _ _ _⟩
  have y0 := fun o => (k2.alloc o).c0
  have y1 := fun o => (k2.alloc o).c1
  have y2 := fun o => (k2.alloc o).c2
  have yf := fun o => (k2.alloc o).fz
  clear k2 hB1 hl1 hb1 H1 Hb2 HS hz
  go_wp2
  exact bodyPost_ret (v := .agg #[.bool b.neg, .slice A1 m1 c1, .int .i64 b.e]) (by simp [results, Tryd.results40, go_sem, y0, y1, y2]) rfl Hfin.out
end Go.Proofs.YtafgooiakmmfkaaDoor
/- From what the form reads to what the walks ask: a dyad that came in. -/
namespace Go.Proofs.YtafgooiakmmfkaaDoor
open Go.ChangeShapes Go.WideShapes Go.ChangeAt Go.RowKit Go.Joins

theorem cellsDy : Tryd.prog.cellsOf 24 = 3 := by kernel_rfl

set_option maxRecDepth 20000 in
theorem dyad_of_trod {H : Type} {enc : TypeId × Value → H} {W : World} {base : Nat} {v : Value} {d : DataW H} {p : List MemPlace}
    (hv : Value.okWide Tryd.prog W .any base 24 v) (h : DataW.Trod enc Tryd.prog W 0 (fun _ => true) true 24 v d p) :
    ∃ (g : Bool) (A : Option Addr) (n c : Nat) (e : Int) (xs : List Nat), v = .agg #[.bool g, .slice A n c, .int .i64 e] ∧ Lim W A n c xs := by
  obtain ⟨v0, v1, v2, y0, y1, y2, m, rfl, rfl, rfl, hy0, hy1, hy2⟩ := open_agg3 Tryd.underlying24 (by kernel_rfl) cellsDy hv h
  obtain ⟨g, e0, _⟩ := DataW.trod_bool Tryd.underlying4 hy0
  obtain ⟨e, e2, _⟩ := DataW.trod_int Tryd.underlying3 hy2
  obtain ⟨A, n, c, e1⟩ := slice_form Tryd.underlying22 hy1
  simp at e0 e1 e2
  subst e0 e1 e2
  have h1 : DataW.Trod enc Tryd.prog W 0 (fun _ => true) true 22 (.slice A n c) y1.1 y1.2 := ⟨m, by simpa [Value.cells] using hy1⟩
  obtain ⟨xs, hx, _⟩ := lim_of_trod h1
  exact ⟨g, A, n, c, e, xs, rfl, hx⟩
end Go.Proofs.YtafgooiakmmfkaaDoor
/- What 64 bits are worth: fields, kinds, sizes, and the bits of a dyad. -/
namespace Go.Proofs.YtafgooiakmmfkaaDoor

def fex (b : Nat) : Nat := b / 4503599627370496 % 2048
def ffr (b : Nat) : Nat := b % 4503599627370496
def fng (b : Nat) : Bool := decide (9223372036854775808 ≤ b)
def fkd (b : Nat) : Nat := if fex b = 0 then (if ffr b = 0 then 0 else 1) else if fex b < 2047 then 2 else if ffr b = 0 then 3 else if 2251799813685248 ≤ ffr b then 4 else 5
/-- The size without the power, and the power's exponent from the least one. -/
def fm (b : Nat) : Nat := if fex b = 0 then ffr b else ffr b + 4503599627370496
def fE (b : Nat) : Nat := fex b - 1
def fe (b : Nat) : Int := (fE b : Int) - 1074
/-- Its kind is 0 to 2. -/
def Fnt (b : Nat) : Prop := fex b ≠ 2047
instance (b : Nat) : Decidable (Fnt b) := inferInstanceAs (Decidable (fex b ≠ 2047))

theorem fex_lt (b : Nat) : fex b < 2048 := Nat.mod_lt _ (by decide)
theorem ffr_lt (b : Nat) : ffr b < 4503599627370496 := Nat.mod_lt _ (by decide)
theorem f_parts (b : Nat) : b % 9223372036854775808 = fE b * 4503599627370496 + fm b ∧ fm b < 9007199254740992 ∧ (0 < fE b → 4503599627370496 ≤ fm b) ∧ (Fnt b → fE b ≤ 2045) := by
  have h1 := fex_lt b
  have h2 := ffr_lt b
  have h3 : b % 9223372036854775808 = fex b * 4503599627370496 + ffr b := by unfold fex ffr; omega
  unfold Fnt
  unfold fE fm
  generalize fex b = x at *
  generalize ffr b = y at *
  generalize b % 9223372036854775808 = z at *
  rcases Nat.eq_zero_or_pos x with h | h
  · subst h
    rw [if_pos rfl]
    exact ⟨by rw [h3], by omega, by omega, by omega⟩
  · obtain ⟨k, rfl⟩ : ∃ k, x = k + 1 := ⟨x - 1, by omega⟩
    rw [if_neg (by omega), Nat.add_sub_cancel, h3]
    exact ⟨by rw [Nat.add_mul]; omega, by omega, by omega, by omega⟩
theorem fkd_fin (b : Nat) : fkd b ≤ 2 ↔ Fnt b := by
  have h1 := fex_lt b
  unfold fkd Fnt
  generalize fex b = x at *
  generalize ffr b = y at *
  split
  · split <;> omega
  · split
    · omega
    · split
      · omega
      · split <;> omega
theorem fkd_zero (b : Nat) : fkd b = 0 ↔ fm b = 0 := by
  have h1 := fex_lt b
  unfold fkd fm
  generalize fex b = x at *
  generalize ffr b = y at *
  split
  · split <;> omega
  · split
    · omega
    · split
      · omega
      · split <;> omega
theorem fin_of_zero {b : Nat} (h : fm b = 0) : Fnt b := (fkd_fin b).1 (by rw [(fkd_zero b).2 h]; decide)
theorem f_sign {b : Nat} (hb : b < 18446744073709551616) : b = (if fng b then 9223372036854775808 else 0) + b % 9223372036854775808 := by
  by_cases h : 9223372036854775808 ≤ b
  · rw [fng, decide_eq_true h, if_pos rfl]; omega
  · rw [fng, decide_eq_false h, if_neg (by decide)]; omega
theorem fe_bd {b : Nat} (h : Fnt b) : -1074 ≤ fe b ∧ fe b ≤ 971 := by
  have := (f_parts b).2.2.2 h
  unfold fe; omega
theorem fe_held {b : Nat} (h : Fnt b) : held (fe b) = fe b := by
  have := fe_bd h
  exact held_id (by omega) (by omega)

/-- Bits laid out of their parts. -/
theorem f_of {L M : Nat} (s : Bool) {X : Nat} (h1 : M < 9007199254740992) (h2 : 0 < L → 4503599627370496 ≤ M) (h3 : L ≤ 2045) (hX : X = (if s then 9223372036854775808 else 0) + (L * 4503599627370496 + M)) :
    X < 18446744073709551616 ∧ Fnt X ∧ fm X = M ∧ fE X = L ∧ fng X = s := by
  have hs : ∃ t, (t = 0 ∨ t = 1) ∧ (if s then 9223372036854775808 else 0) = t * 9223372036854775808 ∧ (s = true ↔ t = 1) := by
    cases s
    · exact ⟨0, Or.inl rfl, rfl, by decide⟩
    · exact ⟨1, Or.inr rfl, rfl, by decide⟩
  obtain ⟨t, ht, hst, hs⟩ := hs
  rw [hst] at hX
  have hng : fng X = s := by
    unfold fng
    cases s
    · have : t = 0 := by rcases ht with h | h; exact h; exact absurd (hs.2 h) (by decide)
      exact decide_eq_false (by omega)
    · have := hs.1 rfl
      exact decide_eq_true (by omega)
  rcases Nat.lt_or_ge M 4503599627370496 with h | h
  · have hL : L = 0 := by omega
    subst hL
    have e1 : fex X = 0 := by unfold fex; omega
    have e2 : ffr X = M := by unfold ffr; omega
    exact ⟨by omega, by unfold Fnt; omega, by rw [fm, if_pos e1, e2], by rw [fE, e1], hng⟩
  · have e1 : fex X = L + 1 := by unfold fex; omega
    have e2 : ffr X = M - 4503599627370496 := by unfold ffr; omega
    exact ⟨by omega, by unfold Fnt; omega, by rw [fm, if_neg (by omega), e2]; omega, by rw [fE, e1]; omega, hng⟩

/-- A dyad as the document's number: odd, or 0. -/
def nO (g : Bool) (V : Nat) (e : Int) : Dy := if V = 0 then ⟨false, 0, 0⟩ else ⟨g, V / 2 ^ low V, held e + low V⟩
theorem nO_zero (g : Bool) (e : Int) : nO g 0 e = ⟨false, 0, 0⟩ := rfl
theorem nO_pos (g : Bool) {V : Nat} (e : Int) (h : V ≠ 0) : nO g V e = ⟨g, V / 2 ^ low V, held e + low V⟩ := if_neg h
theorem mk_nO (g : Bool) (V : Nat) (e : Int) : mk g V e = toldD (nO g V e).neg (nO g V e).V (nO g V e).e := by
  by_cases h : V = 0
  · subst h; rfl
  · rw [nO_pos g e h]; rfl
def Odd (d : Dy) : Prop := (∃ m, d.V = 2 * m + 1) ∨ d = ⟨false, 0, 0⟩
theorem nO_odd (g : Bool) (V : Nat) (e : Int) : Odd (nO g V e) := by
  by_cases h : V = 0
  · subst h; exact Or.inr rfl
  · rw [nO_pos g e h]
    obtain ⟨m, hm⟩ := low_spec (Nat.pos_of_ne_zero h)
    refine Or.inl ⟨m, ?_⟩
    show V / 2 ^ low V = 2 * m + 1
    have h2 := Nat.two_pow_pos (low V)
    generalize low V = l at *
    rw [hm, Nat.mul_div_cancel_left _ h2]
/-- What is odd stays as it is. -/
theorem nO_self {d : Dy} (h : Odd d) (h1 : -2147483648 ≤ d.e) (h2 : d.e ≤ 2147483648) : nO d.neg d.V d.e = d := by
  rcases h with ⟨m, hm⟩ | h
  · have hl : low d.V = 0 := low_eq (l := 0) (m := m) (by rw [hm]; omega)
    rw [nO_pos _ _ (by omega), hl, Nat.pow_zero, Nat.div_one]
    have : held d.e = d.e := by unfold held; omega
    rw [this]
    show Dy.mk d.neg d.V (d.e + ((0 : Nat) : Int)) = d
    rw [show ((0 : Nat) : Int) = 0 from rfl, Int.add_zero]
  · subst h; rfl

/-- The bits of a size. -/
def layd (V : Nat) (e top : Int) : Nat := (max (top - 52) (-1074) + 1074).toNat * 4503599627370496 + V * 2 ^ (e - max (top - 52) (-1074)).toNat
/-- What Exact tells of an odd one. -/
def exD (d : Dy) : Nat × Bool :=
  if d.V = 0 then (0, true) else
  if 1023 < (blen d.V : Int) - 1 + d.e ∨ d.e < -1074 ∨ 52 < (blen d.V : Int) - 1 then (0, false) else
  ((if d.neg then 9223372036854775808 else 0) + layd d.V d.e ((blen d.V : Int) - 1 + d.e), true)

theorem layd_spec {V : Nat} {e top : Int} (hV : V ≠ 0) (htop : top = (blen V : Int) - 1 + e) (h1 : top ≤ 1023) (h2 : -1074 ≤ e) (h3 : (blen V : Int) - 1 ≤ 52) :
    ∃ L M k : Nat, layd V e top = L * 4503599627370496 + M ∧ M = V * 2 ^ k ∧ M < 9007199254740992 ∧ (0 < L → 4503599627370496 ≤ M) ∧ L ≤ 2045 ∧ e = (L : Int) - 1074 + k ∧ max (top - 52) (-1074) + 1074 = (L : Int) := by
  obtain ⟨lo, hlo⟩ : ∃ lo, max (top - 52) (-1074) = lo := ⟨_, rfl⟩
  have hlo1 : lo = top - 52 ∨ (lo = -1074 ∧ top - 52 < -1074) := by omega
  have hB := blen_pos hV
  refine ⟨(lo + 1074).toNat, V * 2 ^ (e - lo).toNat, (e - lo).toNat, by rw [layd, hlo], rfl, ?_, ?_, by omega, by omega, by omega⟩
  · have h4 : blen (V * 2 ^ (e - lo).toNat) ≤ 53 := by rw [blen_shl hV]; omega
    exact blen_le_iff.1 h4
  · intro h
    have h4 : blen (V * 2 ^ (e - lo).toNat) = 53 := by rw [blen_shl hV]; omega
    have h5 := blen_le (x := V * 2 ^ (e - lo).toNat) (fun h0 => by rw [h0] at h4; cases h4)
    rw [h4] at h5
    exact h5

theorem exD_cases (d : Dy) : (d.V = 0 ∧ exD d = (0, true)) ∨ (d.V ≠ 0 ∧ (1023 < (blen d.V : Int) - 1 + d.e ∨ d.e < -1074 ∨ 52 < (blen d.V : Int) - 1) ∧ exD d = (0, false)) ∨
    (d.V ≠ 0 ∧ (blen d.V : Int) - 1 + d.e ≤ 1023 ∧ -1074 ≤ d.e ∧ (blen d.V : Int) - 1 ≤ 52 ∧ exD d = ((if d.neg then 9223372036854775808 else 0) + layd d.V d.e ((blen d.V : Int) - 1 + d.e), true)) := by
  unfold exD
  by_cases h : d.V = 0
  · rw [if_pos h]; exact Or.inl ⟨h, rfl⟩
  · rw [if_neg h]
    by_cases h1 : 1023 < (blen d.V : Int) - 1 + d.e ∨ d.e < -1074 ∨ 52 < (blen d.V : Int) - 1
    · rw [if_pos h1]; exact Or.inr (Or.inl ⟨h, h1, rfl⟩)
    · rw [if_neg h1]; exact Or.inr (Or.inr ⟨h, by omega, by omega, by omega, rfl⟩)

/-- The number that bits are worth. -/
def fO (b : Nat) : Dy := nO (fng b) (fm b) (fe b)

theorem exD_yes {d : Dy} {X : Nat} (hd : Odd d) (h : exD d = (X, true)) : X < 18446744073709551616 ∧ Fnt X ∧ fO X = d := by
  rcases exD_cases d with ⟨h0, h1⟩ | ⟨_, _, h1⟩ | ⟨h0, h1, h2, h3, h4⟩
  · rw [h1] at h
    obtain rfl : 0 = X := congrArg Prod.fst h
    rcases hd with ⟨m, hm⟩ | rfl
    · omega
    · exact ⟨by decide, by decide, rfl⟩
  · rw [h1] at h; cases h
  · rw [h4] at h
    have hX : _ = X := congrArg Prod.fst h
    obtain ⟨L, M, k, k1, k2, k3, k4, k5, k6, _⟩ := layd_spec h0 rfl h1 h2 h3
    obtain ⟨f1, f2, f3, f4, f5⟩ := f_of (X := X) d.neg k3 k4 k5 (by rw [← hX, k1])
    refine ⟨f1, f2, ?_⟩
    rcases hd with ⟨m, hm⟩ | rfl
    · have hl : low M = k := low_eq (m := m) (by rw [k2, hm, Nat.mul_comm])
      have hM : M ≠ 0 := by rw [k2]; exact Nat.mul_ne_zero h0 (Nat.pos_iff_ne_zero.1 (Nat.two_pow_pos _))
      have he : held (fe X) = fe X := fe_held f2
      unfold fO
      rw [f3, f5, nO_pos _ _ hM, he, hl, k2, Nat.mul_div_cancel _ (Nat.two_pow_pos _), fe, f4, ← k6]
    · exact absurd rfl h0

theorem fO_zero {b : Nat} (h : fm b = 0) : fO b = ⟨false, 0, 0⟩ := by rw [fO, h, nO_zero]
/-- .. comes back. -/
theorem exD_back {b : Nat} (hb : b < 18446744073709551616) (hf : Fnt b) : exD (fO b) = (if fm b = 0 then 0 else b, true) := by
  by_cases h0 : fm b = 0
  · rw [fO_zero h0, if_pos h0]; rfl
  · rw [if_neg h0]
    have hO := nO_pos (fng b) (fe b) h0
    rw [fe_held hf] at hO
    obtain ⟨p1, p2, p3, p4⟩ := f_parts b
    have hs := f_sign hb
    rw [p1] at hs
    have hodd := odd_part (fm b)
    have hVne : fm b / 2 ^ low (fm b) ≠ 0 := fun h => h0 (odd_part_zero.1 h)
    have hbl : blen (fm b) = blen (fm b / 2 ^ low (fm b)) + low (fm b) := by
      have := blen_shl (n := low (fm b)) hVne
      rw [hodd] at this
      exact this
    have hb1 : blen (fm b) ≤ 53 := blen_le_iff.2 p2
    have hb2 : 0 < fE b → blen (fm b) = 53 := fun h => blen_eq (p3 h) p2 (by decide)
    have hB := blen_pos hVne
    have hp4 := p4 hf
    have hfe : fe b = (fE b : Int) - 1074 := rfl
    unfold fO
    rw [hO]
    unfold exD
    show (if fm b / 2 ^ low (fm b) = 0 then ((0 : Nat), true) else _) = _
    rw [if_neg hVne]
    show (if 1023 < (blen (fm b / 2 ^ low (fm b)) : Int) - 1 + (fe b + low (fm b)) ∨ fe b + low (fm b) < -1074 ∨ 52 < (blen (fm b / 2 ^ low (fm b)) : Int) - 1 then ((0 : Nat), false) else ((if fng b then 9223372036854775808 else 0) + layd (fm b / 2 ^ low (fm b)) (fe b + low (fm b)) ((blen (fm b / 2 ^ low (fm b)) : Int) - 1 + (fe b + low (fm b))), true)) = _
    rw [if_neg (by omega)]
    have hl : max ((blen (fm b / 2 ^ low (fm b)) : Int) - 1 + (fe b + low (fm b)) - 52) (-1074) = fe b := by
      rcases Nat.eq_zero_or_pos (fE b) with h | h
      · omega
      · have := hb2 h; omega
    rw [layd, hl, show (fe b + 1074).toNat = fE b by omega, show (fe b + (low (fm b) : Int) - fe b).toNat = low (fm b) by omega, hodd, ← hs]

/-- Greater bits are worth more. -/
theorem f_less {a b : Nat} (h : a % 9223372036854775808 < b % 9223372036854775808) (ha : Fnt a) (hb : Fnt b) : sz (fm a) (fe a) < sz (fm b) (fe b) := by
  obtain ⟨a1, a2, a3, a4⟩ := f_parts a
  obtain ⟨b1, b2, b3, b4⟩ := f_parts b
  have s1 : ∀ c : Nat, Fnt c → sh (fe c) = fE c + 2147482574 := fun c hc => by
    have h1 := sh_held (fe c)
    rw [fe_held hc] at h1
    have h2 : fe c = (fE c : Int) - 1074 := rfl
    omega
  unfold sz
  rw [s1 a ha, s1 b hb, Nat.pow_add, Nat.pow_add, ← Nat.mul_assoc, ← Nat.mul_assoc]
  apply Nat.mul_lt_mul_of_pos_right _ (Nat.two_pow_pos _)
  rw [a1, b1] at h
  clear a1 b1 a4 b4 s1 ha hb
  generalize fm a = x at *
  generalize fm b = y at *
  generalize fE a = p at *
  generalize fE b = q at *
  rcases Nat.lt_trichotomy p q with hpq | rfl | hpq
  · obtain ⟨k, rfl⟩ : ∃ k, q = p + 1 + k := ⟨q - (p + 1), by omega⟩
    rw [Nat.pow_add, Nat.pow_add, Nat.pow_one]
    have h1 : y * (2 ^ p * 2 * 1) ≤ y * (2 ^ p * 2 * 2 ^ k) := Nat.mul_le_mul_left _ (Nat.mul_le_mul_left _ (Nat.two_pow_pos k))
    refine Nat.lt_of_lt_of_le ?_ h1
    have h2 : y * (2 ^ p * 2 * 1) = (y * 2) * 2 ^ p := by rw [Nat.mul_one, Nat.mul_comm (2 ^ p), Nat.mul_assoc]
    rw [h2]
    exact Nat.mul_lt_mul_of_pos_right (by have := b3 (by omega); omega) (Nat.two_pow_pos _)
  · exact Nat.mul_lt_mul_of_pos_right (by omega) (Nat.two_pow_pos _)
  · have := a3 (by omega); omega
theorem f_same {a b : Nat} (h : a % 9223372036854775808 = b % 9223372036854775808) : sz (fm a) (fe a) = sz (fm b) (fe b) := by
  have e1 : fex a = fex b := by unfold fex; omega
  have e2 : ffr a = ffr b := by unfold ffr; omega
  unfold fe fE fm
  rw [e1, e2]
theorem sz_told {g : Bool} {V : Nat} {e : Int} {d : Dy} (h : mk g V e = some d) : dw false d.V d.e = (sz V e : Int) := by
  have h1 := (mk_fine h).2.1
  have h2 : ∀ (g : Bool) (V : Nat) (e : Int), (dw g V e).natAbs = sz V e := fun g V e => by cases g <;> simp [dw]
  have h3 := congrArg Int.natAbs h1
  rw [h2, h2] at h3
  show (sz d.V d.e : Int) = _
  rw [h3]
/-- The order of two sizes is that of the bits. -/
theorem f_order {a b : Nat} {x y : Dy} (ha : Fnt a) (hb : Fnt b) (hx : mk (fng a) (fm a) (fe a) = some x) (hy : mk (fng b) (fm b) (fe b) = some y) :
    cmpI (dw false x.V x.e) (dw false y.V y.e) = cmpI (a % 9223372036854775808 : Nat) (b % 9223372036854775808 : Nat) := by
  rw [sz_told hx, sz_told hy]
  rcases Nat.lt_trichotomy (a % 9223372036854775808) (b % 9223372036854775808) with h | h | h
  · have := f_less h ha hb
    rw [cmpI_lt (by omega), cmpI_lt (by omega)]
  · have := f_same h
    rw [cmpI_eq (by omega), cmpI_eq (by omega)]
  · have := f_less h hb ha
    rw [cmpI_gt (by omega), cmpI_gt (by omega)]
/-- Finite bits can be told. -/
theorem mk_fin {b : Nat} (h : Fnt b) : mk (fng b) (fm b) (fe b) = some (fO b) := by
  rw [mk_nO]
  show toldD (fO b).neg (fO b).V (fO b).e = _
  by_cases h0 : fm b = 0
  · rw [fO_zero h0]; rfl
  · have hV : (fO b).V ≠ 0 := by
      rw [fO, nO_pos _ _ h0]; exact fun h => h0 (odd_part_zero.1 h)
    have he : (fO b).e = fe b + low (fm b) := by rw [fO, nO_pos _ _ h0]; show held (fe b) + _ = _; rw [fe_held h]
    have hb := fe_bd h
    have hl : low (fm b) < 53 := by
      refine (low_lt_iff (Nat.pos_of_ne_zero h0)).2 ?_
      have := (f_parts b).2.1
      show fm b % 9007199254740992 ≠ 0
      omega
    rw [toldD, if_neg hV, if_neg (by omega)]
end Go.Proofs.YtafgooiakmmfkaaDoor
/- Masks; the walks of float.Neg, Finite, Kind, size; the document's Kind and Size. -/
namespace Go.Proofs.YtafgooiakmmfkaaDoor
open Go.RowKit

theorem and_shift (x m s : Nat) : x &&& (m <<< s) = ((x >>> s) &&& m) <<< s := by
  apply Nat.eq_of_testBit_eq
  intro i
  simp only [Nat.testBit_and, Nat.testBit_shiftLeft, Nat.testBit_shiftRight]
  by_cases h : s ≤ i
  · simp [h]
  · simp [h]
theorem mask_ex (b : Nat) : b &&& 9218868437227405312 = fex b * 4503599627370496 := by
  rw [show (9218868437227405312 : Nat) = 2047 <<< 52 from by decide, and_shift, show (2047 : Nat) = 2 ^ 11 - 1 from by decide, Nat.and_two_pow_sub_one_eq_mod, Nat.shiftLeft_eq, Nat.shiftRight_eq_div_pow]
  rfl
theorem mask_fr (b : Nat) : b &&& 4503599627370495 = ffr b := by
  rw [show (4503599627370495 : Nat) = 2 ^ 52 - 1 from by decide, Nat.and_two_pow_sub_one_eq_mod]
  rfl
theorem mask_one (b s : Nat) : b &&& (2 ^ s) = b / 2 ^ s % 2 * 2 ^ s := by
  have h := and_shift b 1 s
  rw [Nat.and_one_is_mod, Nat.shiftLeft_eq, Nat.shiftLeft_eq, Nat.shiftRight_eq_div_pow, Nat.one_mul] at h
  exact h

theorem and_ex (b : Nat) (hb : b < 18446744073709551616) : bits BinOp.and IntKind.u64 (b : Int) 9218868437227405312 = ((fex b * 4503599627370496 : Nat) : Int) := by
  have h := bits_and_u64_nat b 9218868437227405312 hb (by decide)
  rw [mask_ex] at h
  exact h
theorem and_fr (b : Nat) (hb : b < 18446744073709551616) : bits BinOp.and IntKind.u64 (b : Int) 4503599627370495 = (ffr b : Int) := by
  have h := bits_and_u64_nat b 4503599627370495 hb (by decide)
  rw [mask_fr] at h
  exact h
theorem and_sign (b : Nat) (hb : b < 18446744073709551616) : bits BinOp.and IntKind.u64 (b : Int) 9223372036854775808 = ((b / 9223372036854775808 * 9223372036854775808 : Nat) : Int) := by
  have h := bits_and_u64_nat b 9223372036854775808 hb (by decide)
  have h2 := mask_one b 63
  rw [show (2 : Nat) ^ 63 = 9223372036854775808 from by decide, show b / 9223372036854775808 % 2 = b / 9223372036854775808 by omega] at h2
  rw [h2] at h
  exact h
theorem and_quiet (f : Nat) (hf : f < 4503599627370496) : bits BinOp.and IntKind.u64 (f : Int) 2251799813685248 = ((f / 2251799813685248 * 2251799813685248 : Nat) : Int) := by
  have h := bits_and_u64_nat f 2251799813685248 (by omega) (by decide)
  have h2 := mask_one f 51
  rw [show (2 : Nat) ^ 51 = 2251799813685248 from by decide, show f / 2251799813685248 % 2 = f / 2251799813685248 by omega] at h2
  rw [h2] at h
  exact h
theorem or_unit (f : Nat) (hf : f < 4503599627370496) : bits BinOp.or IntKind.u64 (f : Int) 4503599627370496 = ((f + 4503599627370496 : Nat) : Int) := by
  have h := bits_or_u64_nat f 4503599627370496 (by omega) (by decide)
  have h2 : f ||| 4503599627370496 = f + 4503599627370496 := by
    have := Nat.shiftLeft_add_eq_or_of_lt (i := 52) (b := f) (show f < 2 ^ 52 from hf) 1
    rw [Nat.or_comm, Nat.add_comm]
    exact this.symm
  rw [h2] at h
  exact h
theorem or_sign (X : Nat) (hX : X < 9223372036854775808) : bits BinOp.or IntKind.u64 9223372036854775808 (X : Int) = ((9223372036854775808 + X : Nat) : Int) := by
  have h := bits_or_u64_nat 9223372036854775808 X (by decide) (by omega)
  have h2 : 9223372036854775808 ||| X = 9223372036854775808 + X :=
    (Nat.shiftLeft_add_eq_or_of_lt (i := 63) (b := X) (show X < 2 ^ 63 from hX) 1).symm
  rw [h2] at h
  exact h

theorem bne_no {x y : Int} (h : x = y) : (x != y) = false := by rw [h]; simp
theorem bne_yes {x y : Int} (h : x ≠ y) : (x != y) = true := by simpa using h
theorem beq_no {x y : Int} (h : x ≠ y) : (x == y) = false := by simpa using h
theorem beq_yes {x y : Int} (h : x = y) : (x == y) = true := by simpa using h







end Go.Proofs.YtafgooiakmmfkaaDoor
/- The walks of float.Parts, Whole, Dyad. -/
namespace Go.Proofs.YtafgooiakmmfkaaDoor
open Go.RowKit

theorem fO_pos {b : Nat} (hf : Fnt b) (h0 : fm b ≠ 0) : (fO b).neg = fng b ∧ (fO b).V = fm b / 2 ^ low (fm b) ∧ (fO b).e = fe b + low (fm b) := by
  rw [fO, nO_pos _ _ h0]
  exact ⟨rfl, rfl, by show held (fe b) + _ = _; rw [fe_held hf]⟩
theorem tz_l (l x : Nat) (hx0 : 0 < x) (hx : x < 18446744073709551616) (w : World) (hT : Tab w) (hl : Hid (low x = l)) :
    Calls Tryd.prog 100 #[.int .u64 (x : Int)] w fun e w' => e = .returned (.int .i64 (l : Int)) ∧ w = w' := by
  obtain ⟨k, m, hk, hm, h⟩ := tz_any x hx0 hx w hT
  have : low x = k := low_eq hm
  rw [← hl.out, this]
  exact h



/-- What Whole tells. -/
def fwh (b : Nat) : Bool × Bool := if fm b = 0 then (true, false) else if Fnt b then (decide (0 ≤ (fO b).e), decide ((fO b).e = 0)) else (false, false)

/-- A dyad that is told with a true. -/
def FTold (w : World) (d : Dy) (L : Nat) (e : Ending) (w' : World) : Prop :=
  ∃ A m c zs, e = .returned (.tuple #[.agg #[.bool d.neg, .slice A m c, .int .i64 d.e], .bool true]) ∧ m ≤ L ∧ Lim w' A m c zs ∧ Bare zs ∧ val zs = d.V ∧ Below w.heap.size w w'



end Go.Proofs.YtafgooiakmmfkaaDoor
/- The walks of float.laid and Exact. -/
namespace Go.Proofs.YtafgooiakmmfkaaDoor
open Go.RowKit

theorem top_zero (g : Bool) (A : Option Addr) (n c : Nat) (xs : List Nat) (e0 : Int) (w : World) (hA : Lim w A n c xs) (hn : n ≤ 4294967296) (h0 : val xs = 0) :
    Calls Tryd.prog 55 #[.agg #[.bool g, .slice A n c, .int .i64 e0]] w fun e w' => e = .returned (.tuple #[.int .i64 0, .bool false]) ∧ Below w.heap.size w w' := by
  have HA := Lib.hid (hA.alloc (.cells #[.bool g, .slice A n c, .int .i64 e0] 36))
  have H1 := Lib.hid (below1 w (.cells #[.bool g, .slice A n c, .int .i64 e0] 36))
  have Hb : Hid (blen (val xs) = 0) := by rw [h0]; rfl
  clear hA h0
  go_enter Tryd.func55, Tryd.ntmps55
  go_wp2_with fail
  refine (bits_l 0 A n c xs _ HA.out (by omega) Hb).mono ?_
  rintro e w' ⟨rfl, rfl⟩
  go_wp2
  go_ret2
  exact ⟨rfl, H1.out⟩


theorem mk_is {g : Bool} {V : Nat} {e : Int} {d : Dy} (h : mk g V e = some d) : nO g V e = d := by
  rw [mk_nO] at h
  obtain ⟨h1, h2, h3⟩ := toldD_fine h
  by_cases h0 : V = 0
  · subst h0
    rw [nO_zero] at h ⊢
    exact Option.some.inj h
  · have h4 : (nO g V e).V ≠ 0 := by rw [nO_pos _ _ h0]; exact fun h => h0 (odd_part_zero.1 h)
    obtain ⟨h5, h6⟩ := h3 h4
    obtain ⟨a, b, c⟩ := d
    simp only at h2 h5 h6
    rw [h2, h5, h6]
theorem mk_none {g : Bool} {V : Nat} {e : Int} (h : mk g V e = none) : exD (nO g V e) = (0, false) := by
  rw [mk_nO] at h
  unfold toldD at h
  split at h
  · cases h
  · rename_i h0
    split at h
    · rename_i h1
      have hB := blen_pos h0
      rw [exD, if_neg h0, if_pos (by omega)]
    · cases h


end Go.Proofs.YtafgooiakmmfkaaDoor
/- The walks of planimeterref05.Same (of the same) and planimeterlaw06.alive. -/
namespace Go.Proofs.YtafgooiakmmfkaaDoor
open Go.RowKit

theorem fsame_yes (g : Bool) (A : Option Addr) (n c : Nat) (xs : List Nat) (e1 : Int) (B : Option Addr) (d : Nat) (w : World) (hA : Lim w A n c xs) (hB : Lim w B n d xs) (hn : n ≤ 4398046511104) :
    Calls Tryd.prog 22 #[.agg #[.bool g, .slice A n c, .int .i64 e1], .agg #[.bool g, .slice B n d, .int .i64 e1]] w fun e w' => e = .returned (.bool true) ∧ Below w.heap.size w w' := by
  have a3 : Below w.heap.size w ((w.alloc (.cells #[.bool g, .slice A n c, .int .i64 e1] 24)).alloc (.cells #[.bool g, .slice B n d, .int .i64 e1] 24)) := ((Below.refl _ _).alloc (Nat.le_refl _) _).alloc (by simp) _
  have H1 := Lib.hid (same_yes A n c xs B d _ (hA.below a3) (hB.below a3) hn)
  have H3 := Lib.hid a3
  clear a3 hA hB
  go_enter Tryd.func22, Tryd.ntmps22
  go_wp2_with fail
  refine H1.out.mono ?_
  rintro e w' ⟨rfl, q, rfl⟩
  have Hfin := Lib.hid (below_drewN H3.out q)
  clear H1 H3
  go_wp2
  go_ret
  exact ⟨rfl, Hfin.out⟩

theorem fO_half : fO 4609434218613702656 = ⟨false, 3, -1⟩ := by
  have h1 : fm 4609434218613702656 = 6755399441055744 := by decide
  have h2 : low 6755399441055744 = 51 := low_eq (m := 1) (by decide)
  have h3 : fe 4609434218613702656 = -52 := by decide
  have h4 : fng 4609434218613702656 = false := by decide
  rw [fO, h1, h3, h4, nO_pos _ _ (by decide), h2]
  rfl
theorem fin_half : Fnt 4609434218613702656 := by decide
theorem back_half : exD (nO false 3 (-1)) = (4609434218613702656, true) := by
  have h := exD_back (b := 4609434218613702656) (by decide) fin_half
  have h1 : fm 4609434218613702656 ≠ 0 := by decide
  rw [if_neg h1, fO_half] at h
  have h2 : nO false 3 (-1) = ⟨false, 3, -1⟩ := nO_self (d := ⟨false, 3, -1⟩) (Or.inl ⟨1, rfl⟩) (by decide) (by decide)
  rw [h2]; exact h
theorem kind_inf : fkd 9218868437227405312 = 3 := by decide


end Go.Proofs.YtafgooiakmmfkaaDoor
/- The document's numbers: planimeterref05.cut, Of; planimeterref06.Worth. -/
namespace Go.Proofs.YtafgooiakmmfkaaDoor
open Go.RowKit

theorem cut_l (e0 h : Int) (w : World) (hh : Hid (held e0 = h)) : Calls Tryd.prog 36 #[.int .i64 e0] w fun e w' => e = .returned (.int .i64 h) ∧ w = w' := by
  have hv := hh.out
  unfold held at hv
  clear hh
  by_cases h1 : 2147483648 < e0
  · obtain rfl : h = 2147483648 := by omega
    have b1 : decide ((2147483648 : Int) < e0) = true := decide_eq_true h1
    clear hv h1
    go_enter Tryd.func36, Tryd.ntmps36
    go_wp2
    go_ret
    exact ⟨rfl, rfl⟩
  · have b1 : decide ((2147483648 : Int) < e0) = false := decide_eq_false h1
    by_cases h2 : e0 < -2147483648
    · obtain rfl : h = -2147483648 := by omega
      have b2 : decide (e0 < -2147483648) = true := decide_eq_true h2
      clear hv h1 h2
      go_enter Tryd.func36, Tryd.ntmps36
      go_wp2
      go_ret
      exact ⟨rfl, rfl⟩
    · obtain rfl : h = e0 := by omega
      have b2 : decide (h < -2147483648) = false := decide_eq_false h2
      clear hv h1 h2
      go_enter Tryd.func36, Tryd.ntmps36
      go_wp2
      go_ret
      exact ⟨rfl, rfl⟩

/-- Digits aren't in such a block. -/
theorem Bd.dig {w : World} {b t : Nat} {g : Bool} {A : Option Addr} {n c : Nat} {e : Int} (h : Bd w b t g A n c e) {A1 : Option Addr} {n1 c1 : Nat} {ds : List Nat} (hA : Dig w A1 n1 c1 ds) (g' : Bool) (A' : Option Addr) (n' c' : Nat) (e' : Int) : Dig (World.put w b g' A' n' c' e') A1 n1 c1 ds :=
  ⟨⟨hA.1.1, hA.1.2.1, fun hn => by
    obtain ⟨k, o, ek, hk, hc⟩ := hA.at_ hn
    have hne : k ≠ b := by
      rintro rfl
      have := h.not (hc 0 hn)
      cases this
    exact ⟨k, o, ek, by rw [put_size]; exact hk, fun j hj => by rw [put_cell _ _ _ _ _ _ _ _ hne]; exact hc j hj⟩⟩, hA.2⟩
theorem Dig.drew {w : World} {A : Option Addr} {n c : Nat} {ds : List Nat} (h : Dig w A n c ds) : Dig w.drew A n c ds := h
theorem Dig.alloc {w : World} {A : Option Addr} {n c : Nat} {ds : List Nat} (h : Dig w A n c ds) (o : Obj) : Dig (w.alloc o) A n c ds := h.below ((Below.refl _ _).alloc (Nat.le_refl _) o)
/-- How many digits a number has at most. -/
theorem dig_len {ds : List Nat} {k : Nat} (hb : D.Bare ds) (h : D.val ds < 2 ^ (16 * k)) : ds.length ≤ k := by
  rcases Nat.lt_or_ge k ds.length with hk | hk
  · obtain ⟨j, hj⟩ : ∃ j, ds.length = j + 1 := ⟨ds.length - 1, by omega⟩
    have h1 := D.val_pos_of_tl (xs := ds) (j := j) (by rw [hb, hj])
    rw [D.pw_two] at h1
    have h2 : (2 : Nat) ^ (16 * k) ≤ 2 ^ (16 * j) := Nat.pow_le_pow_right (by decide) (by omega)
    omega
  · exact hk

/-- A number that is told. -/
def NTold (w : World) (d : Dy) (L : Nat) (e : Ending) (w' : World) : Prop :=
  ∃ A m c ds, e = .returned (.agg #[.bool d.neg, .slice A m c, .int .i64 d.e]) ∧ m ≤ L ∧ Dig w' A m c ds ∧ D.Bare ds ∧ D.val ds = d.V ∧ Below w.heap.size w w'

theorem low_bit {V j : Nat} (h : 0 < V) (hj : j ≤ low V) : V / 2 ^ j % 2 = if j = low V then 1 else 0 := by
  obtain ⟨m, hm⟩ := low_spec h
  generalize low V = l at *
  split
  · rename_i e
    subst e
    rw [hm, Nat.mul_div_cancel_left _ (Nat.two_pow_pos _)]
    omega
  · rename_i e
    obtain ⟨d, rfl⟩ : ∃ d, l = j + (d + 1) := ⟨l - j - 1, by omega⟩
    rw [hm, Nat.pow_add, Nat.mul_assoc, Nat.mul_div_cancel_left _ (Nat.two_pow_pos _), Nat.pow_succ, Nat.mul_comm (2 ^ d), Nat.mul_assoc, Nat.mul_mod_right]

set_option maxHeartbeats 1000000 in
theorem rof_any (g : Bool) (A : Option Addr) (n c : Nat) (xs : List Nat) (e0 : Int) (w : World) (hA : Lim w A n c xs) (hn : n ≤ 200) :
    Calls Tryd.prog 9 #[.agg #[.bool g, .slice A n c, .int .i64 e0]] w (NTold w (nO g (val xs) e0) (4 * n)) := by
  have a3 : Below w.heap.size w ((w.alloc (.cells #[.bool g, .slice A n c, .int .i64 e0] 24)).alloc (.cells #[.bool false, .slice none 0 0, .int .i64 0] 31)) := ((Below.refl _ _).alloc (Nat.le_refl _) _).alloc (by simp) _
  have H1 := Lib.hid (to_any A n c xs _ (hA.below a3) (by omega))
  have b1 := (Bd.new w 24 g A n c e0).alloc (.cells #[.bool false, .slice none 0 0, .int .i64 0] 31)
  have b2 := Bd.new (w.alloc (.cells #[.bool g, .slice A n c, .int .i64 e0] 24)) 31 false none 0 0 0
  rw [World.size_alloc] at b2
  have Hb1 := Lib.hid b1
  have Hb2 := Lib.hid b2
  have HS := Lib.hid a3
  have hlt := val_lt hA.words
  rw [hA.len] at hlt
  have Hlt : Hid (val xs < 2 ^ (16 * (4 * n))) := by
    rw [pw_two, show 64 * n = 16 * (4 * n) by omega] at hlt
    exact hlt
  have hbl := hA.blen_le
  generalize val xs = V at *
  clear hA a3 b1 b2 hlt
  go_enter Tryd.func9, Tryd.ntmps9
  go_wp2_with fail
  refine H1.out.mono ?_
  rintro e w1 ⟨A1, m1, c1, ds, rfl, hm1, hl1, hd1, hv1, hB1⟩
  have HL1 := Lib.hid hl1
  have hk1 := Lib.hid (Hb1.out.below hB1)
  have hk2 := Lib.hid (Hb2.out.below hB1)
  have HS1 := Lib.hid (HS.out.trans (hB1.mono HS.out.size))
  have hm9 : m1 ≤ 800 := by omega
  by_cases h0 : V = 0
  · obtain rfl : ds = [] := by
      have h5 : D.tl ds = 0 := D.tl_zero_iff.2 (hv1.trans h0)
      rw [hd1] at h5
      exact List.eq_nil_of_length_eq_zero h5
    obtain rfl : m1 = 0 := hl1.len.symm
    have Hfin : Hid (NTold w (nO g V e0) (4 * n) (.returned (.agg #[.bool false, .slice none 0 0, .int .i64 0])) (World.put w1 (w.heap.size + 1) false none 0 0 0)) := by
      rw [h0, nO_zero]
      exact ⟨none, 0, 0, [], rfl, Nat.zero_le _, Dig.nil _ _ _, rfl, rfl, below_put HS1.out (Nat.le_succ _) _ _ _ _ _⟩
    have y0 := hk2.out.c0
    have y1 := hk2.out.c1
    have y2 := hk2.out.c2
    have yf := hk2.out.fz
    clear hk1 hk2 hB1 hl1 hd1 hv1 H1 Hb1 Hb2 HS HL1 h0 HS1
    go_wp2
    exact bodyPost_ret (v := .agg #[.bool false, .slice none 0 0, .int .i64 0]) (by simp [results, Tryd.results9, go_sem, y0, y1, y2]) rfl Hfin.out
  · have hm0 : 0 < m1 := by
      rcases Nat.eq_zero_or_pos m1 with h | h
      · exfalso
        apply h0
        rw [← hv1]
        have h5 := hl1.len
        rw [h] at h5
        rw [List.eq_nil_of_length_eq_zero h5]; rfl
      · exact h
    obtain ⟨l, hl⟩ : ∃ l, low V = l := ⟨_, rfl⟩
    have hl9 : l ≤ 64 * n := by rw [← hl]; exact Nat.le_trans (low_le_blen V) hbl
    have Hbit : Hid (∀ j, j ≤ l → V / 2 ^ j % 2 = if j = l then 1 else 0) := fun j hj => by
      rw [← hl]; exact low_bit (Nat.pos_of_ne_zero h0) (by omega)
    have Hv1 := Lib.hid hv1
    have Hd1 := Lib.hid hd1
    have c0 : ((m1 : Int) == 0) = false := beq_no (by omega)
    have HN : Hid (nO g V e0 = ⟨g, V / 2 ^ l, held e0 + l⟩) := by rw [← hl]; exact nO_pos g e0 h0
    clear hB1 hl1 hd1 hv1 H1 Hb1 Hb2 HS h0 hl hbl
    go_wp2
    go_loop [4] (fun i => ∃ j : Nat, j ≤ l ∧ i = .int .i64 j) (fun i => l - (intOf i).toNat)
    case atStart => exact ⟨0, Nat.zero_le _, rfl⟩
    case round =>
      obtain ⟨j, hj, rfl⟩ := hrel
      by_cases hjl : j = l
      · subst hjl
        have Hb : Hid (D.val ds / 2 ^ j % 2 = 1) := by rw [Hv1.out]; have := Hbit.out j (Nat.le_refl _); rw [if_pos rfl] at this; exact this
        have H5 := rshr_pos A1 m1 c1 ds j (by omega) w1 HL1.out Hd1.out (by omega)
        rw [Hv1.out] at H5
        generalize decide (V % 2 ^ j ≠ 0) = R at H5
        have H5 := Lib.hid H5
        obtain ⟨h, hh⟩ : ∃ h, held e0 = h := ⟨_, rfl⟩
        have hhb := held_bd e0
        rw [hh] at hhb
        have Hh := Lib.hid hh
        have Hlt2 : Hid (V / 2 ^ j < 2 ^ (16 * (4 * n))) := Nat.lt_of_le_of_lt (Nat.div_le_self _ _) Hlt.out
        rw [hh] at HN
        have hw : IntKind.i64.wrap (h + (j : Int)) = h + (j : Int) := by rw [IntKind.wrap_i64]; omega
        clear hh Hlt Hbit
        go_wp2_with fail
        refine (rbit_any 1 A1 m1 c1 ds j w1 HL1.out (by omega) (by omega) Hb).mono ?_
        rintro e w' ⟨rfl, rfl⟩
        go_wp2_with fail
        refine H5.out.mono ?_
        rintro e w2 ⟨A2, m2, c2, es, rfl, _, hl2, hd2, hv2, hB2⟩
        have k1 := hk1.out.below hB2
        have k2 := hk2.out.below hB2
        have hm2 : m2 ≤ 4 * n := by
          rw [← hl2.len]
          exact dig_len hd2 (by rw [hv2]; exact Hlt2.out)
        have Hfin : Hid (NTold w (nO g V e0) (4 * n) (.returned (.agg #[.bool g, .slice A2 m2 c2, .int .i64 (h + j)])) (World.put w2 (w.heap.size + 1) g A2 m2 c2 (h + j)).drew) := by
          rw [HN.out]
          exact ⟨A2, m2, c2, es, rfl, hm2, (k2.dig hl2 _ _ _ _ _).drew, hd2, hv2, (below_put (HS1.out.trans (hB2.mono HS1.out.size)) (Nat.le_succ _) _ _ _ _ _).drew⟩
        have q1 := k1.other (b' := w.heap.size + 1) (by omega) g A2 m2 c2 (h + j)
        have K0 := Lib.hid (And.intro k1.drew.c0 k1.drew.c2)
        have K1 := Lib.hid (And.intro q1.drew.c0 q1.drew.c2)
        have y0 := k2.c0
        have y1 := k2.c1
        have y2 := k2.c2
        have yf := k2.fz
        clear k1 k2 q1 hB2 hl2 hd2 hv2 H5 hk1 hk2 HS1 HN Hlt2 Hb HL1 Hv1 Hd1
        go_wp2_with fail
        go_region_held3 (fun w' => w'.cell? ⟨w.heap.size, 0, none⟩ = some (.bool g) ∧ w'.cell? ⟨w.heap.size, 2, none⟩ = some (.int .i64 e0)) (first | (with_reducible exact K0.out) | (with_reducible exact K1.out)) (first | (go_at_call 36; (with_reducible refine (cut_l e0 h _ Hh).mono ?_); rintro e w' ⟨rfl, rfl⟩))
        all_goals (
          go_wp2_with fail
          exact bodyPost_ret (v := .agg #[.bool g, .slice A2 m2 c2, .int .i64 (h + j)]) (by simp [results, Tryd.results9, go_sem, y0, y1, y2]) rfl Hfin.out)
      · have Hb : Hid (D.val ds / 2 ^ j % 2 = 0) := by rw [Hv1.out]; have := Hbit.out j hj; rw [if_neg hjl] at this; exact this
        clear Hbit HN hk1 hk2 HS1 Hlt
        go_wp2_with fail
        refine (rbit_any 0 A1 m1 c1 ds j w1 HL1.out (by omega) (by omega) Hb).mono ?_
        rintro e w' ⟨rfl, rfl⟩
        go_wp2
        go_round
        case rel => exact ⟨j + 1, by omega, by go_num⟩
        case measure => simp [intOf]; omega
end Go.Proofs.YtafgooiakmmfkaaDoor
/- The document's numbers: planimeterref06.Worth and Same, planimeterref05.Fits. -/
namespace Go.Proofs.YtafgooiakmmfkaaDoor
open Go.RowKit

/-- Digits as limbs. -/
theorem limbs_t (A : Option Addr) (n c : Nat) (ds : List Nat) (w : World) (h : Dig w A n c ds) (hb : D.Bare ds) (hn : n ≤ 1000000) :
    Calls Tryd.prog 42 #[.slice A n c] w (Tells w (D.val ds) ((n + 3) / 4)) := by
  refine (limbs_any A n c ds w h hn).mono ?_
  rintro e w' ⟨rfl, h1, h2⟩
  exact ⟨_, _, _, _, rfl, Nat.le_refl _, h1, by have := grp_bare ds hb; rw [h.len] at this; exact this, by rw [grp_val, List.take_of_length_le (by rw [h.len]; omega)], h2⟩

theorem fits_yes (g : Bool) (A : Option Addr) (n c : Nat) (e0 : Int) (w : World) (h1 : -1073741824 ≤ e0) (h2 : e0 ≤ 1073741824) :
    Calls Tryd.prog 43 #[.agg #[.bool g, .slice A n c, .int .i64 e0]] w fun e w' => e = .returned (.bool true) ∧ Below w.heap.size w w' := by
  have H1 := Lib.hid (below1 w (.cells #[.bool g, .slice A n c, .int .i64 e0] 31))
  have b1 : decide (-1073741824 ≤ e0) = true := decide_eq_true h1
  have b2 : decide (e0 ≤ 1073741824) = true := decide_eq_true h2
  clear h1 h2
  go_enter Tryd.func43, Tryd.ntmps43
  go_wp2
  go_ret
  exact ⟨rfl, H1.out⟩


theorem bool_no {g k : Bool} (h : ¬ g = k) : (g == k) = false := by cases g <;> cases k <;> simp_all

end Go.Proofs.YtafgooiakmmfkaaDoor
/- The walk of planimeterref05.To, of a number that is odd, or 0. -/
namespace Go.Proofs.YtafgooiakmmfkaaDoor
open Go.RowKit

/-- While it is walked: what came in, in its box, and the result's block. -/
def HoldT (w : World) (g : Bool) (A : Option Addr) (m c : Nat) (ds : List Nat) (E : Int) (u : World) : Prop :=
  Bd u w.heap.size 31 g A m c E ∧ Bd u (w.heap.size + 1) 24 false none 0 0 0 ∧ Dig u A m c ds ∧ Below w.heap.size w u
abbrev CellsT (w : World) (g : Bool) (A : Option Addr) (m c : Nat) (E : Int) (w' : World) : Prop :=
  w'.cell? ⟨w.heap.size, 0, none⟩ = some (.bool g) ∧ w'.cell? ⟨w.heap.size, 1, none⟩ = some (.slice A m c) ∧ w'.cell? ⟨w.heap.size, 2, none⟩ = some (.int .i64 E)
section
variable {w : World} {g : Bool} {A : Option Addr} {m c : Nat} {ds : List Nat} {E : Int} {u u' : World}
theorem HoldT.below (h : HoldT w g A m c ds E u) (hb : Below u.heap.size u u') : HoldT w g A m c ds E u' :=
  ⟨h.1.below hb, h.2.1.below hb, h.2.2.1.below hb, h.2.2.2.trans (hb.mono h.2.2.2.size)⟩
theorem HoldT.cells (h : HoldT w g A m c ds E u) : CellsT w g A m c E u := ⟨h.1.c0, h.1.c1, h.1.c2⟩
theorem HoldT.put (h : HoldT w g A m c ds E u) {p : Nat} (hp : w.heap.size + 1 < p) {t : Nat} {g0 : Bool} {A0 : Option Addr} {n0 c0 : Nat} {e0 : Int} (hB : Bd u p t g0 A0 n0 c0 e0) (g' : Bool) (A' : Option Addr) (n' c' : Nat) (e' : Int) : HoldT w g A m c ds E (World.put u p g' A' n' c' e') :=
  ⟨h.1.other (by omega) _ _ _ _ _, h.2.1.other (by omega) _ _ _ _ _, hB.dig h.2.2.1 _ _ _ _ _, below_put h.2.2.2 (by omega) _ _ _ _ _⟩
end
/-- Behind the first region: the same number in a block p. -/
def RelT (w : World) (g : Bool) (V : Nat) (E : Int) (p : Nat) (A5 : Option Addr) (m5 c5 : Nat) (es : List Nat) (u : World) : Prop :=
  Bd u p 31 g A5 m5 c5 E ∧ Bd u (w.heap.size + 1) 24 false none 0 0 0 ∧ Dig u A5 m5 c5 es ∧ D.Bare es ∧ D.val es = V ∧ m5 ≤ 200 ∧ w.heap.size + 1 < p ∧ Below w.heap.size w u
theorem RelT.below {w : World} {g : Bool} {V : Nat} {E : Int} {p : Nat} {A5 : Option Addr} {m5 c5 : Nat} {es : List Nat} {u u' : World} (h : RelT w g V E p A5 m5 c5 es u) (hb : Below u.heap.size u u') : RelT w g V E p A5 m5 c5 es u' := by
  obtain ⟨h1, h2, h3, h4, h5, h6, h7, h8⟩ := h
  exact ⟨h1.below hb, h2.below hb, h3.below hb, h4, h5, h6, h7, h8.trans (hb.mono h8.size)⟩
theorem RelT.of {w : World} {g : Bool} {V : Nat} {E : Int} {A : Option Addr} {m c : Nat} {ds : List Nat} {u : World} (h : HoldT w g A m c ds E u) {p : Nat} (hp : w.heap.size + 1 < p) {g0 : Bool} {A0 : Option Addr} {n0 c0 : Nat} {e0 : Int} (hB : Bd u p 31 g0 A0 n0 c0 e0) {A5 : Option Addr} {m5 c5 : Nat} {es : List Nat} (hl : Dig u A5 m5 c5 es) (hd : D.Bare es) (hv : D.val es = V) (hm : m5 ≤ 200) : RelT w g V E p A5 m5 c5 es (World.put u p g A5 m5 c5 E) :=
  ⟨hB.put _ _ _ _ _, h.2.1.other (by omega) _ _ _ _ _, hB.dig hl _ _ _ _ _, hd, hv, hm, hp, below_put h.2.2.2 (by omega) _ _ _ _ _⟩

/-- A dyad that is told with the error 0. -/
def TTold (w : World) (d : Dy) (L : Nat) (e : Ending) (w' : World) : Prop :=
  ∃ A m c zs, e = .returned (.tuple #[.agg #[.bool d.neg, .slice A m c, .int .i64 d.e], .int .i64 0]) ∧ m ≤ L ∧ Lim w' A m c zs ∧ Bare zs ∧ val zs = d.V ∧ Below w.heap.size w w'

set_option maxHeartbeats 4000000 in
theorem rto_any (g : Bool) (V : Nat) (E : Int) (A : Option Addr) (m c : Nat) (ds : List Nat) (w : World) (hA : Dig w A m c ds) (hd : D.Bare ds) (hv : D.val ds = V) (hm : m ≤ 100) (hodd : Odd ⟨g, V, E⟩) (hE1 : -1073741824 ≤ E) (hE2 : E ≤ 1073741824) :
    Calls Tryd.prog 19 #[.agg #[.bool g, .slice A m c, .int .i64 E]] w (TTold w ⟨g, V, E⟩ 50) := by
  have a3 : Below w.heap.size w ((w.alloc (.cells #[.bool g, .slice A m c, .int .i64 E] 31)).alloc (.cells #[.bool false, .slice none 0 0, .int .i64 0] 24)) := ((Below.refl _ _).alloc (Nat.le_refl _) _).alloc (by simp) _
  have b1 := (Bd.new w 31 g A m c E).alloc (.cells #[.bool false, .slice none 0 0, .int .i64 0] 24)
  have b2 := Bd.new (w.alloc (.cells #[.bool g, .slice A m c, .int .i64 E] 31)) 24 false none 0 0 0
  rw [World.size_alloc] at b2
  have h0 : HoldT w g A m c ds E ((w.alloc (.cells #[.bool g, .slice A m c, .int .i64 E] 31)).alloc (.cells #[.bool false, .slice none 0 0, .int .i64 0] 24)) := ⟨b1, b2, hA.below a3, a3⟩
  have F0 := Lib.hid (h0.below (below_drew _))
  have F0c := Lib.hid F0.out.cells
  have F1 := Lib.hid ((h0.below (below1 _ (.cells #[.bool false, .slice none 0 0, .int .i64 0] 31))).below (below_drew _))
  have F1c := Lib.hid F1.out.cells
  have z1 := Bd.new ((w.alloc (.cells #[.bool g, .slice A m c, .int .i64 E] 31)).alloc (.cells #[.bool false, .slice none 0 0, .int .i64 0] 24)) 31 false none 0 0 0
  rw [World.size_alloc, World.size_alloc] at z1
  have Z1 := Lib.hid z1.drew
  have HL : Hid (∀ u, HoldT w g A m c ds E u → Calls Tryd.prog 42 #[.slice A m c] u (Tells u V ((m + 3) / 4))) := fun u hu => by
    have := limbs_t A m c ds u hu.2.2.1 hd (by omega)
    rw [hv] at this
    exact this
  have HO : Hid (∀ u A1 m1 c1 zs, Lim u A1 m1 c1 zs → val zs = V → m1 ≤ 50 → Calls Tryd.prog 9 #[.agg #[.bool g, .slice A1 m1 c1, .int .i64 E]] u (NTold u ⟨g, V, E⟩ (4 * m1))) := fun u A1 m1 c1 zs h1 h2 h3 => by
    have := rof_any g A1 m1 c1 zs E u h1 (by omega)
    rw [h2, show nO g V E = ⟨g, V, E⟩ from nO_self (d := ⟨g, V, E⟩) hodd (by show -2147483648 ≤ E; omega) (by show E ≤ 2147483648; omega)] at this
    exact this
  have Hodd := Lib.hid hodd
  clear a3 b1 b2 hA h0 z1 hodd hd hv
  go_enter Tryd.func19, Tryd.ntmps19
  go_wp2_with fail
  go_cut [4] from 5 (fun s4 wx => ∃ (p m5 c5 : Nat) (A5 : Option Addr) (es : List Nat), s4 = .pointer (some ⟨p, 0, none⟩) ∧ Hid (RelT w g V E p A5 m5 c5 es wx))
  case first =>
    go_region_held3 (fun w' => w'.cell? ⟨w.heap.size, 0, none⟩ = some (.bool g) ∧ w'.cell? ⟨w.heap.size, 1, none⟩ = some (.slice A m c) ∧ w'.cell? ⟨w.heap.size, 2, none⟩ = some (.int .i64 E))
      (first | (with_reducible exact F0c.out) | (with_reducible exact F1c.out) | (with_reducible exact K1.out) | (with_reducible exact K1a.out _) | (with_reducible exact K2.out) | (with_reducible exact K2a.out _) | (with_reducible exact K2b.out))
      (first
        | (go_at_call 42; (with_reducible refine (HL.out _ F0.out).mono ?_); rintro e w1 ⟨A1, m1, c1, zs, rfl, hm1, hl1, hb1, hv1, hB1⟩; have h1 := F0.out.below hB1; have K1 := Lib.hid h1.cells; have K1a : Hid (∀ o, CellsT w g A m c E (w1.alloc o)) := fun o => (h1.below (below1 _ o)).cells; have h1 := Lib.hid h1; have L1 : Hid (Lim w1 A1 m1 c1 zs ∧ val zs = V) := ⟨hl1, hv1⟩; clear hl1 hb1 hv1 hB1)
        | (go_at_call 42; (with_reducible refine (HL.out _ F1.out).mono ?_); rintro e w1 ⟨A1, m1, c1, zs, rfl, hm1, hl1, hb1, hv1, hB1⟩; have g1 := F1.out.below hB1; have K1 := Lib.hid g1.cells; have G1 := Lib.hid (Z1.out.below hB1); have g1 := Lib.hid g1; have M1 : Hid (Lim w1 A1 m1 c1 zs ∧ val zs = V) := ⟨hl1, hv1⟩; clear hl1 hb1 hv1 hB1)
        | (go_at_call 9; (with_reducible refine (HO.out w1 A1 m1 c1 zs L1.out.1 L1.out.2 (by omega)).mono ?_); rintro e w2 ⟨A2, m2, c2, es, rfl, hm2, hl2, hd2, hv2, hB2⟩; have h2 := h1.out.below hB2; have K2 := Lib.hid h2.cells; have K2a : Hid (∀ o, CellsT w g A m c E (w2.alloc o)) := fun o => (h2.below (below1 _ o)).cells; have hsz : w.heap.size + 1 < w2.heap.size := h2.2.1.lt; have q2 := h2.below (below1 _ (.cells #[.bool false, .slice none 0 0, .int .i64 0] 31)); have z2 := Bd.new w2 31 false none 0 0 0; have u0 := z2.c0; have u1 := z2.c1; have u2 := z2.c2; have uf := z2.fz; have K2b := Lib.hid (q2.put hsz z2 g A2 m2 c2 E).cells; have Fin0 : Hid (RelT w g V E w2.heap.size A2 m2 c2 es (w2.alloc (.cells #[.bool g, .slice A2 m2 c2, .int .i64 E] 31))) := ⟨Bd.new w2 _ _ _ _ _ _, h2.2.1.alloc _, hl2.alloc _, hd2, hv2, by omega, hsz, h2.2.2.2.trans ((below1 w2 _).mono h2.2.2.2.size)⟩; clear q2 z2 hl2 hd2 hv2 hB2 h2)
        | (go_at_call 9; (with_reducible refine (HO.out (w1.alloc (.cells #[.bool false, .slice none 0 0, .int .i64 0] 31)) A1 m1 c1 zs (L1.out.1.alloc _) L1.out.2 (by omega)).mono ?_); rintro e w2 ⟨A2, m2, c2, es, rfl, hm2, hl2, hd2, hv2, hB2⟩; have h2 := (h1.out.below (below1 _ (.cells #[.bool false, .slice none 0 0, .int .i64 0] 31))).below hB2; have K2 := Lib.hid h2.cells; have hsz : w.heap.size + 1 < w1.heap.size := h1.out.2.1.lt; have z2 := (Bd.new w1 31 false none 0 0 0).below hB2; have u0 := z2.c0; have u1 := z2.c1; have u2 := z2.c2; have uf := z2.fz; have K2b := Lib.hid (h2.put hsz z2 g A2 m2 c2 E).cells; have Fin1 := Lib.hid (RelT.of h2 hsz z2 hl2 hd2 hv2 (by omega)); clear z2 hl2 hd2 hv2 hB2 h2)
        | (go_at_call 9; (with_reducible refine (HO.out w1 A1 m1 c1 zs M1.out.1 M1.out.2 (by omega)).mono ?_); rintro e w2 ⟨A2, m2, c2, es, rfl, hm2, hl2, hd2, hv2, hB2⟩; have h2 := g1.out.below hB2; have K2 := Lib.hid h2.cells; have hsz : w.heap.size + 1 < w.heap.size + 1 + 1 := Nat.lt_succ_self _; have z2 := G1.out.below hB2; have u0 := z2.c0; have u1 := z2.c1; have u2 := z2.c2; have uf := z2.fz; have K2b := Lib.hid (h2.put hsz z2 g A2 m2 c2 E).cells; have Fin1 := Lib.hid (RelT.of h2 hsz z2 hl2 hd2 hv2 (by omega)); clear z2 hl2 hd2 hv2 hB2 h2))
    all_goals (go_wp2_with fail)
    all_goals go_meet
    all_goals (refine ⟨_, m2, c2, A2, es, rfl, ?_⟩)
    all_goals (first | (with_reducible exact Fin1) | (with_reducible exact Fin0))
  case rest =>
    obtain ⟨wA, rfl⟩ : ∃ wA, wA = wc := ⟨_, rfl⟩
    obtain ⟨p, m5, c5, A5, es, rfl, HR⟩ := hcut
    have x0 := HR.out.1.c0
    have x1 := HR.out.1.c1
    have x2 := HR.out.1.c2
    clear F0 F0c F1 F1c Z1 HL HO
    go_wp2_with fail
    refine (fits_yes g A5 m5 c5 E wA hE1 hE2).mono ?_
    rintro e w2 ⟨rfl, hB2⟩
    have HR2 := Lib.hid (HR.out.below hB2)
    have y0 := HR2.out.1.c0
    have y1 := HR2.out.1.c1
    have y2 := HR2.out.1.c2
    have z0 := HR2.out.2.1.c0
    have z1 := HR2.out.2.1.c1
    have z2 := HR2.out.2.1.c2
    have zf := HR2.out.2.1.fz
    have hV5 := HR2.out.2.2.2.2.1
    have hL5 := HR2.out.2.2.1.len
    have hm5 := HR2.out.2.2.2.2.2.1
    clear HR hB2 x0 x1 x2
    by_cases hV : V = 0
    · have hd0 : g = false ∧ E = 0 := by
        rcases Hodd.out with ⟨q, hq⟩ | h
        · simp only at hq; omega
        · obtain ⟨r1, _, r3⟩ := Dy.mk.inj h; exact ⟨r1, r3⟩
      obtain ⟨rfl, rfl⟩ := hd0
      obtain rfl : m5 = 0 := by
        have h5 : D.tl es = 0 := D.tl_zero_iff.2 (hV5.trans hV)
        rw [HR2.out.2.2.2.1] at h5
        omega
      have Hfin : Hid (TTold w ⟨false, V, 0⟩ 50 (.returned (.tuple #[.agg #[.bool false, .slice none 0 0, .int .i64 0], .int .i64 0])) (World.put w2 (w.heap.size + 1) false none 0 0 0)) :=
        ⟨none, 0, 0, [], rfl, Nat.zero_le _, Lim.nil _ _ _, rfl, hV.symm, below_put HR2.out.2.2.2.2.2.2.2 (Nat.le_succ _) _ _ _ _ _⟩
      clear HR2 hV5 hL5 hV Hodd
      go_wp2
      exact bodyPost_ret (v := .tuple #[.agg #[.bool false, .slice none 0 0, .int .i64 0], .int .i64 0]) (by simp [results, Tryd.results19, go_sem, z0, z1, z2]) rfl Hfin.out
    · have hm0 : m5 ≠ 0 := by
        intro h
        apply hV
        rw [← hV5]
        rw [h] at hL5
        rw [List.eq_nil_of_length_eq_zero hL5]; rfl
      have c0 : ((m5 : Int) == 0) = false := beq_no (by omega)
      have h9 := HR2.out.below (below_drew _)
      have H9 := limbs_t A5 m5 c5 es _ h9.2.2.1 h9.2.2.2.1 (by omega)
      rw [hV5] at H9
      have H9 := Lib.hid H9
      have K0 := Lib.hid (And.intro h9.1.c0 (And.intro h9.1.c1 h9.1.c2))
      have h9 := Lib.hid h9
      clear hV5 hL5 hV Hodd hm0
      go_wp2_with fail
      go_region_held3 (fun w' => w'.cell? ⟨p, 0, none⟩ = some (.bool g) ∧ w'.cell? ⟨p, 1, none⟩ = some (.slice A5 m5 c5) ∧ w'.cell? ⟨p, 2, none⟩ = some (.int .i64 E))
        (first | (with_reducible exact K0.out) | (with_reducible exact K1.out) | (with_reducible exact K2.out))
        (first | (go_at_call 42; (with_reducible refine H9.out.mono ?_); rintro e w3 ⟨A6, m6, c6, zs, rfl, hm6, hl6, hb6, hv6, hB6⟩; have h3 := h9.out.below hB6; have K1 := Lib.hid (And.intro h3.1.c0 (And.intro h3.1.c1 h3.1.c2)); have q3 := h3.1.other (b' := w.heap.size + 1) (by have := h3.2.2.2.2.2.2.1; omega) g A6 m6 c6 E; have K2 := Lib.hid (And.intro q3.c0 (And.intro q3.c1 q3.c2)); have u0 := h3.2.1.c0; have u1 := h3.2.1.c1; have u2 := h3.2.1.c2; have uf := h3.2.1.fz; have Hfin : Hid (TTold w ⟨g, V, E⟩ 50 (.returned (.tuple #[.agg #[.bool g, .slice A6 m6 c6, .int .i64 E], .int .i64 0])) (World.put w3 (w.heap.size + 1) g A6 m6 c6 E)) := ⟨A6, m6, c6, zs, rfl, by omega, h3.2.1.lim hl6 _ _ _ _ _, hb6, hv6, below_put h3.2.2.2.2.2.2.2 (Nat.le_succ _) _ _ _ _ _⟩; clear q3 h3 hl6 hb6 hv6 hB6))
      all_goals (
        clear K0 K1 K2 h9 H9 HR2 y0 y1 y2 z0 z1 z2 zf
        go_wp2_with fail
        exact bodyPost_ret (v := .tuple #[.agg #[.bool g, .slice A6 m6 c6, .int .i64 E], .int .i64 0]) (by simp [results, Tryd.results19, go_sem, u0, u1, u2]) rfl Hfin.out)
end Go.Proofs.YtafgooiakmmfkaaDoor
