/- Dyads as numbers: what one is worth (times 2^(2^31)), and what Make, Add and Mul tell. -/
import Derived.Test.YtgacafdkhailmaaDoorLaws
namespace Go.Proofs.YtgacafdkhailmaaDoor

/-- An exponent within 2^31. -/
def held (e : Int) : Int := min (max e (-2147483648)) 2147483648
theorem held_bd (e : Int) : -2147483648 ≤ held e ∧ held e ≤ 2147483648 := by unfold held; omega
theorem held_id {e : Int} (h1 : -1073741824 ≤ e) (h2 : e ≤ 1073741824) : held e = e := by unfold held; omega
/-- .. counted from -2^31. -/
def sh (e : Int) : Nat := (held e + 2147483648).toNat
theorem sh_held (e : Int) : (sh e : Int) = held e + 2147483648 := by have := held_bd e; unfold sh; omega
theorem sh_add {e f : Int} {k : Nat} (h : held f = held e + k) : sh f = sh e + k := by
  have h1 := sh_held e
  have h2 := sh_held f
  omega

/-- The size. -/
def sz (V : Nat) (e : Int) : Nat := V * 2 ^ sh e
/-- The worth. -/
def dw (g : Bool) (V : Nat) (e : Int) : Int := if g then -(sz V e : Int) else (sz V e : Int)
theorem sz_zero (e : Int) : sz 0 e = 0 := by simp [sz]
theorem sz_pos {V : Nat} (e : Int) (h : V ≠ 0) : 0 < sz V e := Nat.mul_pos (Nat.pos_of_ne_zero h) (Nat.two_pow_pos _)
theorem dw_zero (g : Bool) (e : Int) : dw g 0 e = 0 := by cases g <;> simp [dw, sz_zero]
theorem dw_neg (g : Bool) (V : Nat) (e : Int) : dw (!g) V e = - dw g V e := by cases g <;> simp [dw]
/-- A shift up, the exponent down. -/
theorem sz_shift {V k : Nat} {e f : Int} (h : held f = held e + k) : sz V f = sz (V * 2 ^ k) e := by
  unfold sz
  rw [sh_add h, Nat.pow_add, Nat.mul_assoc, Nat.mul_comm (2 ^ k)]
theorem dw_shift {V k : Nat} {e f : Int} (g : Bool) (h : held f = held e + k) : dw g V f = dw g (V * 2 ^ k) e := by
  unfold dw; rw [sz_shift h]

structure Dy where
  neg : Bool
  V : Nat
  e : Int

def toldD (g : Bool) (V : Nat) (e : Int) : Option Dy :=
  if V = 0 then some ⟨false, 0, 0⟩ else if e < -1073741824 ∨ 1073741824 < e then none else some ⟨g, V, e⟩
def mk (g : Bool) (V : Nat) (e : Int) : Option Dy := toldD g (V / 2 ^ low V) (held e + low V)

theorem toldD_zero (g : Bool) (e : Int) : toldD g 0 e = some ⟨false, 0, 0⟩ := rfl
/-- What is told: its exponent is small, it is worth what it was to be, it is no longer. -/
def Fine (d : Dy) : Prop := -1073741824 ≤ d.e ∧ d.e ≤ 1073741824 ∧ (d.V = 0 → d.neg = false ∧ d.e = 0)
theorem toldD_fine {g : Bool} {V : Nat} {e : Int} {d : Dy} (h : toldD g V e = some d) : Fine d ∧ d.V = V ∧ (V ≠ 0 → d.neg = g ∧ d.e = e) := by
  unfold toldD at h
  split at h
  · rename_i h0
    obtain rfl := Option.some.inj h
    exact ⟨⟨by decide, by decide, fun _ => ⟨rfl, rfl⟩⟩, h0.symm, fun h => absurd h0 h⟩
  · split at h
    · cases h
    · rename_i h0 h1
      obtain rfl := Option.some.inj h
      exact ⟨⟨by show -1073741824 ≤ e; omega, by show e ≤ 1073741824; omega, fun h => absurd h h0⟩, rfl, fun _ => ⟨rfl, rfl⟩⟩
theorem Fine.held {d : Dy} (h : Fine d) : held d.e = d.e := held_id h.1 h.2.1

theorem odd_part (V : Nat) : V / 2 ^ low V * 2 ^ low V = V := by
  rcases Nat.eq_zero_or_pos V with h | h
  · rw [h]; simp
  · obtain ⟨m, hm⟩ := low_spec h
    have h2 := Nat.two_pow_pos (low V)
    generalize low V = l at hm h2
    rw [hm, Nat.mul_comm, Nat.mul_div_cancel_left _ h2]
theorem odd_part_zero {V : Nat} : V / 2 ^ low V = 0 ↔ V = 0 := by
  have := odd_part V
  constructor
  · intro h; rw [h, Nat.zero_mul] at this; exact this.symm
  · intro h; rw [h]; simp

theorem mk_fine {g : Bool} {V : Nat} {e : Int} {d : Dy} (h : mk g V e = some d) : Fine d ∧ dw d.neg d.V d.e = dw g V e ∧ (d.V = 0 ↔ V = 0) ∧ d.V ≤ V := by
  obtain ⟨h1, h2, h3⟩ := toldD_fine h
  refine ⟨h1, ?_, by rw [h2]; exact odd_part_zero, by rw [h2]; exact Nat.div_le_self _ _⟩
  by_cases h0 : V = 0
  · have : d.V = 0 := by rw [h2]; exact odd_part_zero.2 h0
    rw [this, h0, dw_zero, dw_zero]
  · obtain ⟨h4, h5⟩ := h3 (fun h => h0 (odd_part_zero.1 h))
    have h6 := dw_shift (V := d.V) (k := low V) (e := e) (f := d.e) d.neg (by rw [h1.held, h5])
    rw [h6, h4, h2, odd_part]
theorem mk_turn {g : Bool} {V : Nat} {e : Int} {d : Dy} (h : mk g V e = some d) : ∃ d', mk (!g) V e = some d' := by
  unfold mk toldD at h ⊢
  split at h
  · rename_i h0; rw [if_pos h0]; exact ⟨_, rfl⟩
  · rename_i h0
    rw [if_neg h0]
    split at h
    · cases h
    · rename_i h1; rw [if_neg h1]; exact ⟨_, rfl⟩

/-- The sum of two bare ones. -/
def addB (a b : Dy) : Option Dy :=
  if a.V = 0 then some b else if b.V = 0 then some a else
  if 65535 < max ((blen a.V : Int) - 1 + a.e) ((blen b.V : Int) - 1 + b.e) - min a.e b.e then none else
  if a.neg = b.neg then mk a.neg (a.V * 2 ^ (a.e - min a.e b.e).toNat + b.V * 2 ^ (b.e - min a.e b.e).toNat) (min a.e b.e) else
  if a.V * 2 ^ (a.e - min a.e b.e).toNat < b.V * 2 ^ (b.e - min a.e b.e).toNat then mk b.neg (b.V * 2 ^ (b.e - min a.e b.e).toNat - a.V * 2 ^ (a.e - min a.e b.e).toNat) (min a.e b.e)
  else mk a.neg (a.V * 2 ^ (a.e - min a.e b.e).toNat - b.V * 2 ^ (b.e - min a.e b.e).toNat) (min a.e b.e)
def addO : Option Dy → Option Dy → Option Dy
  | some a, some b => addB a b
  | _, _ => none

theorem mk_nought (g h : Bool) (e : Int) : mk g 0 e = mk h 0 e := rfl
theorem addB_comm {a b : Dy} (ha : Fine a) (hb : Fine b) : addB a b = addB b a := by
  unfold addB
  by_cases h1 : a.V = 0
  · rw [if_pos h1]
    by_cases h2 : b.V = 0
    · rw [if_pos h2]
      obtain ⟨g1, v1, e1⟩ := a
      obtain ⟨g2, v2, e2⟩ := b
      obtain ⟨rfl, rfl⟩ := ha.2.2 h1
      obtain ⟨rfl, rfl⟩ := hb.2.2 h2
      simp only at h1 h2
      rw [h1, h2]
    · rw [if_neg h2, if_pos h1]
  · rw [if_neg h1]
    by_cases h2 : b.V = 0
    · rw [if_pos h2, if_pos h2]
    · rw [if_neg h2, if_neg h2, if_neg h1, Int.min_comm b.e a.e, Int.max_comm ((blen b.V : Int) - 1 + b.e)]
      generalize a.V * 2 ^ (a.e - min a.e b.e).toNat = x
      generalize b.V * 2 ^ (b.e - min a.e b.e).toNat = y
      by_cases h3 : 65535 < max ((blen a.V : Int) - 1 + a.e) ((blen b.V : Int) - 1 + b.e) - min a.e b.e
      · rw [if_pos h3, if_pos h3]
      · rw [if_neg h3, if_neg h3]
        by_cases h4 : a.neg = b.neg
        · rw [if_pos h4, if_pos h4.symm, h4, Nat.add_comm]
        · rw [if_neg h4, if_neg (show ¬ b.neg = a.neg from fun h => h4 h.symm)]
          rcases Nat.lt_trichotomy x y with h5 | h5 | h5
          · rw [if_pos h5, if_neg (by omega)]
          · subst h5
            rw [if_neg (Nat.lt_irrefl _), if_neg (Nat.lt_irrefl _), Nat.sub_self]; rfl
          · rw [if_neg (by omega), if_pos h5]
theorem addO_comm {g h : Bool} {V U : Nat} {e f : Int} : addO (mk g V e) (mk h U f) = addO (mk h U f) (mk g V e) := by
  cases h1 : mk g V e with
  | none => cases mk h U f <;> rfl
  | some a => cases h2 : mk h U f with
    | none => rfl
    | some b => exact addB_comm (mk_fine h1).1 (mk_fine h2).1

theorem dw_same (g : Bool) (x y : Nat) (e : Int) : dw g (x + y) e = dw g x e + dw g y e := by
  have : sz (x + y) e = sz x e + sz y e := by unfold sz; rw [Nat.add_mul]
  unfold dw
  cases g <;> simp only [this] <;> simp <;> omega
theorem dw_less (g h : Bool) (x y : Nat) (e : Int) (hg : g ≠ h) (hle : y ≤ x) : dw g (x - y) e = dw g x e + dw h y e := by
  obtain ⟨d, rfl⟩ : ∃ d, x = y + d := ⟨x - y, by omega⟩
  obtain rfl : h = !g := by cases g <;> cases h <;> simp_all
  rw [Nat.add_sub_cancel_left, dw_same, dw_neg]; omega

theorem addB_fine {a b d : Dy} (ha : Fine a) (hb : Fine b) (h : addB a b = some d) : Fine d ∧ dw d.neg d.V d.e = dw a.neg a.V a.e + dw b.neg b.V b.e := by
  unfold addB at h
  by_cases h1 : a.V = 0
  · rw [if_pos h1] at h
    obtain rfl := Option.some.inj h
    rw [h1, dw_zero]
    exact ⟨hb, by omega⟩
  · rw [if_neg h1] at h
    by_cases h2 : b.V = 0
    · rw [if_pos h2] at h
      obtain rfl := Option.some.inj h
      rw [h2, dw_zero]
      exact ⟨ha, by omega⟩
    · rw [if_neg h2] at h
      obtain ⟨l, hl⟩ : ∃ l, min a.e b.e = l := ⟨_, rfl⟩
      have hlh : held l = l := by have := ha.1; have := ha.2.1; have := hb.1; have := hb.2.1; exact held_id (by omega) (by omega)
      have ea := dw_shift (V := a.V) (k := (a.e - l).toNat) (e := l) (f := a.e) a.neg (by rw [hlh, ha.held]; omega)
      have eb := dw_shift (V := b.V) (k := (b.e - l).toNat) (e := l) (f := b.e) b.neg (by rw [hlh, hb.held]; omega)
      rw [ea, eb]
      rw [hl] at h
      generalize a.V * 2 ^ (a.e - l).toNat = x at h ⊢
      generalize b.V * 2 ^ (b.e - l).toNat = y at h ⊢
      clear ea eb
      split at h
      · cases h
      · split at h
        · rename_i h4
          obtain ⟨k1, k2, _, _⟩ := mk_fine h
          exact ⟨k1, by rw [k2, dw_same, h4]⟩
        · split at h
          · rename_i h4 h5
            obtain ⟨k1, k2, _, _⟩ := mk_fine h
            exact ⟨k1, by rw [k2, dw_less b.neg a.neg y x l (fun h => h4 h.symm) (by omega)]; omega⟩
          · rename_i h4 h5
            obtain ⟨k1, k2, _, _⟩ := mk_fine h
            exact ⟨k1, by rw [k2, dw_less a.neg b.neg x y l h4 (by omega)]⟩
theorem addO_fine {g h : Bool} {V U : Nat} {e f : Int} {d : Dy} (k : addO (mk g V e) (mk h U f) = some d) : Fine d ∧ dw d.neg d.V d.e = dw g V e + dw h U f := by
  cases h1 : mk g V e with
  | none => rw [h1] at k; cases mk h U f <;> cases k
  | some a => cases h2 : mk h U f with
    | none => rw [h1, h2] at k; cases k
    | some b =>
      rw [h1, h2] at k
      obtain ⟨a1, a2, _, _⟩ := mk_fine h1
      obtain ⟨b1, b2, _, _⟩ := mk_fine h2
      obtain ⟨c1, c2⟩ := addB_fine a1 b1 k
      exact ⟨c1, by rw [c2, a2, b2]⟩
theorem addO_some {g h : Bool} {V U : Nat} {e f : Int} {d : Dy} (k : addO (mk g V e) (mk h U f) = some d) : (∃ a, mk g V e = some a) ∧ ∃ b, mk h U f = some b := by
  cases h1 : mk g V e with
  | none => rw [h1] at k; cases mk h U f <;> cases k
  | some a => cases h2 : mk h U f with
    | none => rw [h1, h2] at k; cases k
    | some b => exact ⟨⟨_, rfl⟩, ⟨_, rfl⟩⟩

/-- The product of two bare ones. -/
def mulB (a b : Dy) : Option Dy :=
  if a.V ≠ 0 ∧ b.V ≠ 0 ∧ 65536 < blen a.V + blen b.V then none else toldD (a.neg != b.neg) (a.V * b.V) (a.e + b.e)
def mulO : Option Dy → Option Dy → Option Dy
  | some a, some b => mulB a b
  | _, _ => none
theorem sz_mul {V U : Nat} {e f h : Int} (hh : held h = held e + held f) : sz (V * U) h * 2 ^ sh 0 = sz V e * sz U f := by
  have h1 := sh_held e
  have h2 := sh_held f
  have h3 := sh_held h
  have h4 := sh_held 0
  have h5 : held 0 = 0 := by decide
  have h6 : sh h + sh 0 = sh e + sh f := by omega
  unfold sz
  rw [Nat.mul_assoc, ← Nat.pow_add, h6, Nat.pow_add]
  simp [Nat.mul_assoc, Nat.mul_left_comm]
theorem dw_mul {V U : Nat} {e f h : Int} (g k : Bool) (hh : held h = held e + held f) : dw (g != k) (V * U) h * ((2 ^ sh 0 : Nat) : Int) = dw g V e * dw k U f := by
  have h1 : ((sz (V * U) h : Int)) * ((2 ^ sh 0 : Nat) : Int) = (sz V e : Int) * (sz U f : Int) := by rw [← Int.natCast_mul, sz_mul hh, Int.natCast_mul]
  cases g <;> cases k <;> simp only [dw, bne_self_eq_false, Bool.false_eq_true, ↓reduceIte, Bool.true_bne, Bool.false_bne, Bool.not_false, Int.neg_mul, Int.mul_neg, Int.neg_neg] <;> rw [h1]
theorem mulB_fine {a b d : Dy} (ha : Fine a) (hb : Fine b) (h : mulB a b = some d) : Fine d ∧ dw d.neg d.V d.e * ((2 ^ sh 0 : Nat) : Int) = dw a.neg a.V a.e * dw b.neg b.V b.e := by
  unfold mulB at h
  split at h
  · cases h
  · obtain ⟨h1, h2, h3⟩ := toldD_fine h
    refine ⟨h1, ?_⟩
    by_cases h0 : a.V * b.V = 0
    · rw [h2, h0, dw_zero, Int.zero_mul]
      rcases Nat.mul_eq_zero.1 h0 with k | k
      · rw [k, dw_zero, Int.zero_mul]
      · rw [k, dw_zero, Int.mul_zero]
    · obtain ⟨h4, h5⟩ := h3 h0
      rw [h4, h2]
      exact dw_mul _ _ (by rw [h1.held, ha.held, hb.held, h5])
theorem mulO_fine {g h : Bool} {V U : Nat} {e f : Int} {d : Dy} (k : mulO (mk g V e) (mk h U f) = some d) : Fine d ∧ dw d.neg d.V d.e * ((2 ^ sh 0 : Nat) : Int) = dw g V e * dw h U f := by
  cases h1 : mk g V e with
  | none => rw [h1] at k; cases mk h U f <;> cases k
  | some a => cases h2 : mk h U f with
    | none => rw [h1, h2] at k; cases k
    | some b =>
      rw [h1, h2] at k
      obtain ⟨a1, a2, _, _⟩ := mk_fine h1
      obtain ⟨b1, b2, _, _⟩ := mk_fine h2
      obtain ⟨c1, c2⟩ := mulB_fine a1 b1 k
      exact ⟨c1, by rw [c2, a2, b2]⟩

/-- What Cmp tells. -/
def cmpI (x y : Int) : Int := if x < y then -1 else if x = y then 0 else 1
theorem cmpI_lt {x y : Int} (h : x < y) : cmpI x y = -1 := by simp [cmpI, h]
theorem cmpI_eq {x y : Int} (h : x = y) : cmpI x y = 0 := by simp [cmpI, h]
theorem cmpI_gt {x y : Int} (h : y < x) : cmpI x y = 1 := by rw [cmpI, if_neg (by omega), if_neg (by omega)]
theorem cmpI_swap (x y : Int) : cmpI y x = - cmpI x y := by
  rcases Int.lt_trichotomy x y with h | h | h
  · rw [cmpI_gt h, cmpI_lt h]; rfl
  · rw [cmpI_eq h, cmpI_eq h.symm]; rfl
  · rw [cmpI_lt h, cmpI_gt h]
theorem cmpI_bd (x y : Int) : -1 ≤ cmpI x y ∧ cmpI x y ≤ 1 := by
  rcases Int.lt_trichotomy x y with h | h | h
  · rw [cmpI_lt h]; decide
  · rw [cmpI_eq h]; decide
  · rw [cmpI_gt h]; decide

def sgD (g : Bool) (V : Nat) : Int := if V = 0 then 0 else if g then -1 else 1
theorem sgD_bd (g : Bool) (V : Nat) : -1 ≤ sgD g V ∧ sgD g V ≤ 1 := by unfold sgD; split; decide; split <;> decide
theorem sgD_spec (g : Bool) (V : Nat) (e : Int) : (sgD g V = 0 ∧ V = 0 ∧ dw g V e = 0) ∨ (sgD g V = -1 ∧ V ≠ 0 ∧ dw g V e = -(sz V e : Int) ∧ 0 < sz V e) ∨ (sgD g V = 1 ∧ V ≠ 0 ∧ dw g V e = (sz V e : Int) ∧ 0 < sz V e) := by
  by_cases h : V = 0
  · subst h; exact Or.inl ⟨rfl, rfl, dw_zero _ _⟩
  · cases g
    · exact Or.inr (Or.inr ⟨by simp [sgD, h], h, rfl, sz_pos e h⟩)
    · exact Or.inr (Or.inl ⟨by simp [sgD, h], h, rfl, sz_pos e h⟩)
theorem cmp_signs {g k : Bool} {V U : Nat} {e f : Int} (h : sgD g V ≠ sgD k U) : cmpI (sgD g V) (sgD k U) = cmpI (dw g V e) (dw k U f) := by
  have h1 := sgD_spec g V e
  have h2 := sgD_spec k U f
  have hlt : sgD g V < sgD k U ∨ sgD k U < sgD g V := by omega
  rcases hlt with h3 | h3
  · rw [cmpI_lt h3, cmpI_lt (by omega)]
  · rw [cmpI_gt h3, cmpI_gt (by omega)]
theorem cmp_noughts {g k : Bool} {V U : Nat} {e f : Int} (h : sgD g V = sgD k U) (h0 : sgD g V = 0) : (0 : Int) = cmpI (dw g V e) (dw k U f) := by
  have h1 := sgD_spec g V e
  have h2 := sgD_spec k U f
  rw [cmpI_eq (by omega)]
theorem cmp_sizes {g k : Bool} {V U : Nat} {e f : Int} (h : sgD g V = sgD k U) (h0 : sgD g V ≠ 0) : sgD g V * cmpZ (sz V e) (sz U f) = cmpI (dw g V e) (dw k U f) := by
  have h1 := sgD_spec g V e
  have h2 := sgD_spec k U f
  have hs : sgD g V = -1 ∨ sgD g V = 1 := by omega
  rcases Nat.lt_trichotomy (sz V e) (sz U f) with h3 | h3 | h3
  · rw [cmpZ_lt h3]
    rcases hs with hs | hs
    · rw [hs, cmpI_gt (by omega)]; rfl
    · rw [hs, cmpI_lt (by omega)]; rfl
  · rw [cmpZ_eq h3, cmpI_eq (by omega), Int.mul_zero]
  · rw [cmpZ_gt h3]
    rcases hs with hs | hs
    · rw [hs, cmpI_lt (by omega)]; rfl
    · rw [hs, cmpI_gt (by omega)]; rfl

/-- The top. -/
def topD (V : Nat) (e : Int) : Int := (blen V : Int) - 1 + held e
theorem blen_sz {V : Nat} (e : Int) (h : V ≠ 0) : (blen (sz V e) : Int) = topD V e + 1 + 2147483648 := by
  unfold sz topD
  rw [blen_shl h]
  have := sh_held e
  omega
theorem lt_of_blen {x y : Nat} (h : blen x < blen y) : x < y := by
  rcases Nat.lt_or_ge x y with h' | h'
  · exact h'
  · have := blen_mono h'; omega
theorem cmp_tops {V U : Nat} {e f : Int} (hV : V ≠ 0) (hU : U ≠ 0) (h : topD V e ≠ topD U f) : cmpI (topD V e) (topD U f) = cmpZ (sz V e) (sz U f) := by
  have h1 := blen_sz e hV
  have h2 := blen_sz f hU
  have hlt : topD V e < topD U f ∨ topD U f < topD V e := by omega
  rcases hlt with h3 | h3
  · rw [cmpI_lt h3, cmpZ_lt (lt_of_blen (by omega))]
  · rw [cmpI_gt h3, cmpZ_gt (lt_of_blen (by omega))]
/-- Two numbers as if their first bits were of one worth. -/
def leadD (V U : Nat) : Int := cmpZ (V * 2 ^ (blen U - blen V)) (U * 2 ^ (blen V - blen U))
theorem leadD_swap (V U : Nat) : leadD U V = - leadD V U := cmpZ_swap _ _
theorem cmpZ_times {x y p : Nat} (hp : 0 < p) : cmpZ (x * p) (y * p) = cmpZ x y := by
  rcases Nat.lt_trichotomy x y with h | h | h
  · rw [cmpZ_lt h, cmpZ_lt (Nat.mul_lt_mul_of_pos_right h hp)]
  · rw [h, cmpZ_eq rfl, cmpZ_eq rfl]
  · rw [cmpZ_gt h, cmpZ_gt (Nat.mul_lt_mul_of_pos_right h hp)]
theorem cmp_lead {V U : Nat} {e f : Int} (hV : V ≠ 0) (hU : U ≠ 0) (h : topD V e = topD U f) : leadD V U = cmpZ (sz V e) (sz U f) := by
  have h1 := sh_held e
  have h2 := sh_held f
  unfold topD at h
  have hv := blen_pos hV
  have hu := blen_pos hU
  unfold leadD sz
  rcases Nat.le_total (blen U) (blen V) with h3 | h3
  · have e1 : sh f = (blen V - blen U) + sh e := by omega
    rw [e1, Nat.sub_eq_zero_of_le h3, Nat.pow_add, ← Nat.mul_assoc, cmpZ_times (Nat.two_pow_pos _)]
    simp
  · have e1 : sh e = (blen U - blen V) + sh f := by omega
    rw [e1, Nat.sub_eq_zero_of_le h3, Nat.pow_add, ← Nat.mul_assoc, cmpZ_times (Nat.two_pow_pos _)]
    simp
/-- .. by cutting the longer one. -/
theorem lead_cut {V U d : Nat} (h : blen U ≤ blen V) (hd : blen V - blen U = d) :
    (V / 2 ^ d = U ∧ V % 2 ^ d ≠ 0 ∧ leadD V U = 1) ∨ ((V / 2 ^ d ≠ U ∨ V % 2 ^ d = 0) ∧ leadD V U = cmpZ (V / 2 ^ d) U) := by
  unfold leadD
  rw [hd, Nat.sub_eq_zero_of_le h, Nat.pow_zero, Nat.mul_one]
  have hp := Nat.two_pow_pos d
  have e := Nat.div_add_mod V (2 ^ d)
  have hr := Nat.mod_lt V hp
  generalize 2 ^ d = p at *
  generalize V / p = q at *
  generalize V % p = r at *
  rcases Nat.lt_trichotomy q U with h1 | h1 | h1
  · refine Or.inr ⟨Or.inl (by omega), ?_⟩
    rw [cmpZ_lt h1, cmpZ_lt]
    have := Nat.mul_le_mul_left p (show q + 1 ≤ U from h1)
    rw [Nat.mul_add, Nat.mul_one, Nat.mul_comm p U] at this
    omega
  · subst h1
    rw [Nat.mul_comm q p]
    by_cases h2 : r = 0
    · exact Or.inr ⟨Or.inr h2, by rw [cmpZ_eq rfl, cmpZ_eq (by omega)]⟩
    · exact Or.inl ⟨rfl, h2, cmpZ_gt (by omega)⟩
  · refine Or.inr ⟨Or.inl (by omega), ?_⟩
    rw [cmpZ_gt h1, cmpZ_gt]
    have := Nat.mul_le_mul_left p (show U + 1 ≤ q from h1)
    rw [Nat.mul_add, Nat.mul_one, Nat.mul_comm p U] at this
    omega
end Go.Proofs.YtgacafdkhailmaaDoor
