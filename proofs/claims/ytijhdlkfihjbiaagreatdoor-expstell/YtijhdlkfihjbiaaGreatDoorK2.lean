/- DyMath, DyMem, FlMath, DyMake, DyCmp, DyOrd, FlBits, FlParts, FlExact, FlAlive, FlRef, FlNum, FlTo, DyBoth, DyDown, DyAdd, DyMul, DyOpen: joined. -/
import Derived.Test.YtijhdlkfihjbiaaGreatDoorK1
import Derived.Deep.RegionHeld3
import Derived.Deep.Cut
import Derived.Lib.SmallJoins
/- Dyads as numbers: what one is worth (times 2^(2^31)), and what Make, Add and Mul tell. -/
namespace Go.Proofs.YtijhdlkfihjbiaaGreatDoor

/-- An exponent within 2^31. -/
def held (e : Int) : Int := min (max e (-2147483648)) 2147483648
theorem held_bd (e : Int) : -2147483648 ≤ held e ∧ held e ≤ 2147483648 := by unfold held; omega
theorem held_id {e : Int} (h1 : -1073741824 ≤ e) (h2 : e ≤ 1073741824) : held e = e := by unfold held; omega
/-- .. counted from -2^31. -/
def sh (e : Int) : Nat := (held e + 2147483648).toNat
theorem sh_held (e : Int) : (sh e : Int) = held e + 2147483648 := by have := held_bd e; unfold sh; omega
theorem sh_add {e f : Int} {k : Nat} (h : held f = held e + k) : sh f = sh e + k := by
  have h1 := sh_held e
  have h2 := sh_held f
  omega

/-- The size. -/
def sz (V : Nat) (e : Int) : Nat := V * 2 ^ sh e
/-- The worth. -/
def dw (g : Bool) (V : Nat) (e : Int) : Int := if g then -(sz V e : Int) else (sz V e : Int)
theorem sz_zero (e : Int) : sz 0 e = 0 := by simp [sz]
theorem sz_pos {V : Nat} (e : Int) (h : V ≠ 0) : 0 < sz V e := Nat.mul_pos (Nat.pos_of_ne_zero h) (Nat.two_pow_pos _)
theorem dw_zero (g : Bool) (e : Int) : dw g 0 e = 0 := by cases g <;> simp [dw, sz_zero]
theorem dw_neg (g : Bool) (V : Nat) (e : Int) : dw (!g) V e = - dw g V e := by cases g <;> simp [dw]
/-- A shift up, the exponent down. -/
theorem sz_shift {V k : Nat} {e f : Int} (h : held f = held e + k) : sz V f = sz (V * 2 ^ k) e := by
  unfold sz
  rw [sh_add h, Nat.pow_add, Nat.mul_assoc, Nat.mul_comm (2 ^ k)]
theorem dw_shift {V k : Nat} {e f : Int} (g : Bool) (h : held f = held e + k) : dw g V f = dw g (V * 2 ^ k) e := by
  unfold dw; rw [sz_shift h]

structure Dy where
  neg : Bool
  V : Nat
  e : Int

def toldD (g : Bool) (V : Nat) (e : Int) : Option Dy :=
  if V = 0 then some ⟨false, 0, 0⟩ else if e < -1073741824 ∨ 1073741824 < e then none else some ⟨g, V, e⟩
def mk (g : Bool) (V : Nat) (e : Int) : Option Dy := toldD g (V / 2 ^ low V) (held e + low V)

theorem toldD_zero (g : Bool) (e : Int) : toldD g 0 e = some ⟨false, 0, 0⟩ := rfl
/-- What is told: its exponent is small, it is worth what it was to be, it is no longer. -/
def Fine (d : Dy) : Prop := -1073741824 ≤ d.e ∧ d.e ≤ 1073741824 ∧ (d.V = 0 → d.neg = false ∧ d.e = 0)
theorem toldD_fine {g : Bool} {V : Nat} {e : Int} {d : Dy} (h : toldD g V e = some d) : Fine d ∧ d.V = V ∧ (V ≠ 0 → d.neg = g ∧ d.e = e) := by
  unfold toldD at h
  split at h
  · rename_i h0
    obtain rfl := Option.some.inj h
    exact ⟨⟨by decide, by decide, fun _ => ⟨rfl, rfl⟩⟩, h0.symm, fun h => absurd h0 h⟩
  · split at h
    · cases h
    · rename_i h0 h1
      obtain rfl := Option.some.inj h
      exact ⟨⟨by show -1073741824 ≤ e; omega, by show e ≤ 1073741824; omega, fun h => absurd h h0⟩, rfl, fun _ => ⟨rfl, rfl⟩⟩
theorem Fine.held {d : Dy} (h : Fine d) : held d.e = d.e := held_id h.1 h.2.1

theorem odd_part (V : Nat) : V / 2 ^ low V * 2 ^ low V = V := by
  rcases Nat.eq_zero_or_pos V with h | h
  · rw [h]; simp
  · obtain ⟨m, hm⟩ := low_spec h
    have h2 := Nat.two_pow_pos (low V)
    generalize low V = l at hm h2
    rw [hm, Nat.mul_comm, Nat.mul_div_cancel_left _ h2]
theorem odd_part_zero {V : Nat} : V / 2 ^ low V = 0 ↔ V = 0 := by
  have := odd_part V
  constructor
  · intro h; rw [h, Nat.zero_mul] at this; exact this.symm
  · intro h; rw [h]; simp

theorem mk_fine {g : Bool} {V : Nat} {e : Int} {d : Dy} (h : mk g V e = some d) : Fine d ∧ dw d.neg d.V d.e = dw g V e ∧ (d.V = 0 ↔ V = 0) ∧ d.V ≤ V := by
  obtain ⟨h1, h2, h3⟩ := toldD_fine h
  refine ⟨h1, ?_, by rw [h2]; exact odd_part_zero, by rw [h2]; exact Nat.div_le_self _ _⟩
  by_cases h0 : V = 0
  · have : d.V = 0 := by rw [h2]; exact odd_part_zero.2 h0
    rw [this, h0, dw_zero, dw_zero]
  · obtain ⟨h4, h5⟩ := h3 (fun h => h0 (odd_part_zero.1 h))
    have h6 := dw_shift (V := d.V) (k := low V) (e := e) (f := d.e) d.neg (by rw [h1.held, h5])
    rw [h6, h4, h2, odd_part]
/-- The sum of two bare ones. -/
def addB (a b : Dy) : Option Dy :=
  if a.V = 0 then some b else if b.V = 0 then some a else
  if 65535 < max ((blen a.V : Int) - 1 + a.e) ((blen b.V : Int) - 1 + b.e) - min a.e b.e then none else
  if a.neg = b.neg then mk a.neg (a.V * 2 ^ (a.e - min a.e b.e).toNat + b.V * 2 ^ (b.e - min a.e b.e).toNat) (min a.e b.e) else
  if a.V * 2 ^ (a.e - min a.e b.e).toNat < b.V * 2 ^ (b.e - min a.e b.e).toNat then mk b.neg (b.V * 2 ^ (b.e - min a.e b.e).toNat - a.V * 2 ^ (a.e - min a.e b.e).toNat) (min a.e b.e)
  else mk a.neg (a.V * 2 ^ (a.e - min a.e b.e).toNat - b.V * 2 ^ (b.e - min a.e b.e).toNat) (min a.e b.e)
def addO : Option Dy → Option Dy → Option Dy
  | some a, some b => addB a b
  | _, _ => none

theorem dw_same (g : Bool) (x y : Nat) (e : Int) : dw g (x + y) e = dw g x e + dw g y e := by
  have : sz (x + y) e = sz x e + sz y e := by unfold sz; rw [Nat.add_mul]
  unfold dw
  cases g <;> simp only [this] <;> simp <;> omega
theorem dw_less (g h : Bool) (x y : Nat) (e : Int) (hg : g ≠ h) (hle : y ≤ x) : dw g (x - y) e = dw g x e + dw h y e := by
  obtain ⟨d, rfl⟩ : ∃ d, x = y + d := ⟨x - y, by omega⟩
  obtain rfl : h = !g := by cases g <;> cases h <;> simp_all
  rw [Nat.add_sub_cancel_left, dw_same, dw_neg]; omega

theorem addB_fine {a b d : Dy} (ha : Fine a) (hb : Fine b) (h : addB a b = some d) : Fine d ∧ dw d.neg d.V d.e = dw a.neg a.V a.e + dw b.neg b.V b.e := by
  unfold addB at h
  by_cases h1 : a.V = 0
  · rw [if_pos h1] at h
    obtain rfl := Option.some.inj h
    rw [h1, dw_zero]
    exact ⟨hb, by omega⟩
  · rw [if_neg h1] at h
    by_cases h2 : b.V = 0
    · rw [if_pos h2] at h
      obtain rfl := Option.some.inj h
      rw [h2, dw_zero]
      exact ⟨ha, by omega⟩
    · rw [if_neg h2] at h
      obtain ⟨l, hl⟩ : ∃ l, min a.e b.e = l := ⟨_, rfl⟩
      have hlh : held l = l := by have := ha.1; have := ha.2.1; have := hb.1; have := hb.2.1; exact held_id (by omega) (by omega)
      have ea := dw_shift (V := a.V) (k := (a.e - l).toNat) (e := l) (f := a.e) a.neg (by rw [hlh, ha.held]; omega)
      have eb := dw_shift (V := b.V) (k := (b.e - l).toNat) (e := l) (f := b.e) b.neg (by rw [hlh, hb.held]; omega)
      rw [ea, eb]
      rw [hl] at h
      generalize a.V * 2 ^ (a.e - l).toNat = x at h ⊢
      generalize b.V * 2 ^ (b.e - l).toNat = y at h ⊢
      clear ea eb
      split at h
      · cases h
      · split at h
        · rename_i h4
          obtain ⟨k1, k2, _, _⟩ := mk_fine h
          exact ⟨k1, by rw [k2, dw_same, h4]⟩
        · split at h
          · rename_i h4 h5
            obtain ⟨k1, k2, _, _⟩ := mk_fine h
            exact ⟨k1, by rw [k2, dw_less b.neg a.neg y x l (fun h => h4 h.symm) (by omega)]; omega⟩
          · rename_i h4 h5
            obtain ⟨k1, k2, _, _⟩ := mk_fine h
            exact ⟨k1, by rw [k2, dw_less a.neg b.neg x y l h4 (by omega)]⟩
/-- What Cmp tells. -/
def cmpI (x y : Int) : Int := if x < y then -1 else if x = y then 0 else 1
theorem cmpI_lt {x y : Int} (h : x < y) : cmpI x y = -1 := by simp [cmpI, h]
theorem cmpI_eq {x y : Int} (h : x = y) : cmpI x y = 0 := by simp [cmpI, h]
theorem cmpI_gt {x y : Int} (h : y < x) : cmpI x y = 1 := by rw [cmpI, if_neg (by omega), if_neg (by omega)]
theorem cmpI_swap (x y : Int) : cmpI y x = - cmpI x y := by
  rcases Int.lt_trichotomy x y with h | h | h
  · rw [cmpI_gt h, cmpI_lt h]; rfl
  · rw [cmpI_eq h, cmpI_eq h.symm]; rfl
  · rw [cmpI_lt h, cmpI_gt h]
def sgD (g : Bool) (V : Nat) : Int := if V = 0 then 0 else if g then -1 else 1
theorem sgD_spec (g : Bool) (V : Nat) (e : Int) : (sgD g V = 0 ∧ V = 0 ∧ dw g V e = 0) ∨ (sgD g V = -1 ∧ V ≠ 0 ∧ dw g V e = -(sz V e : Int) ∧ 0 < sz V e) ∨ (sgD g V = 1 ∧ V ≠ 0 ∧ dw g V e = (sz V e : Int) ∧ 0 < sz V e) := by
  by_cases h : V = 0
  · subst h; exact Or.inl ⟨rfl, rfl, dw_zero _ _⟩
  · cases g
    · exact Or.inr (Or.inr ⟨by simp [sgD, h], h, rfl, sz_pos e h⟩)
    · exact Or.inr (Or.inl ⟨by simp [sgD, h], h, rfl, sz_pos e h⟩)
theorem cmp_signs {g k : Bool} {V U : Nat} {e f : Int} (h : sgD g V ≠ sgD k U) : cmpI (sgD g V) (sgD k U) = cmpI (dw g V e) (dw k U f) := by
  have h1 := sgD_spec g V e
  have h2 := sgD_spec k U f
  have hlt : sgD g V < sgD k U ∨ sgD k U < sgD g V := by omega
  rcases hlt with h3 | h3
  · rw [cmpI_lt h3, cmpI_lt (by omega)]
  · rw [cmpI_gt h3, cmpI_gt (by omega)]
theorem cmp_noughts {g k : Bool} {V U : Nat} {e f : Int} (h : sgD g V = sgD k U) (h0 : sgD g V = 0) : (0 : Int) = cmpI (dw g V e) (dw k U f) := by
  have h1 := sgD_spec g V e
  have h2 := sgD_spec k U f
  rw [cmpI_eq (by omega)]
theorem cmp_sizes {g k : Bool} {V U : Nat} {e f : Int} (h : sgD g V = sgD k U) (h0 : sgD g V ≠ 0) : sgD g V * cmpZ (sz V e) (sz U f) = cmpI (dw g V e) (dw k U f) := by
  have h1 := sgD_spec g V e
  have h2 := sgD_spec k U f
  have hs : sgD g V = -1 ∨ sgD g V = 1 := by omega
  rcases Nat.lt_trichotomy (sz V e) (sz U f) with h3 | h3 | h3
  · rw [cmpZ_lt h3]
    rcases hs with hs | hs
    · rw [hs, cmpI_gt (by omega)]; rfl
    · rw [hs, cmpI_lt (by omega)]; rfl
  · rw [cmpZ_eq h3, cmpI_eq (by omega), Int.mul_zero]
  · rw [cmpZ_gt h3]
    rcases hs with hs | hs
    · rw [hs, cmpI_lt (by omega)]; rfl
    · rw [hs, cmpI_gt (by omega)]; rfl

/-- The top. -/
def topD (V : Nat) (e : Int) : Int := (blen V : Int) - 1 + held e
theorem blen_sz {V : Nat} (e : Int) (h : V ≠ 0) : (blen (sz V e) : Int) = topD V e + 1 + 2147483648 := by
  unfold sz topD
  rw [blen_shl h]
  have := sh_held e
  omega
theorem lt_of_blen {x y : Nat} (h : blen x < blen y) : x < y := by
  rcases Nat.lt_or_ge x y with h' | h'
  · exact h'
  · have := blen_mono h'; omega
theorem cmp_tops {V U : Nat} {e f : Int} (hV : V ≠ 0) (hU : U ≠ 0) (h : topD V e ≠ topD U f) : cmpI (topD V e) (topD U f) = cmpZ (sz V e) (sz U f) := by
  have h1 := blen_sz e hV
  have h2 := blen_sz f hU
  have hlt : topD V e < topD U f ∨ topD U f < topD V e := by omega
  rcases hlt with h3 | h3
  · rw [cmpI_lt h3, cmpZ_lt (lt_of_blen (by omega))]
  · rw [cmpI_gt h3, cmpZ_gt (lt_of_blen (by omega))]
/-- Two numbers as if their first bits were of one worth. -/
def leadD (V U : Nat) : Int := cmpZ (V * 2 ^ (blen U - blen V)) (U * 2 ^ (blen V - blen U))
theorem leadD_swap (V U : Nat) : leadD U V = - leadD V U := cmpZ_swap _ _
theorem cmpZ_times {x y p : Nat} (hp : 0 < p) : cmpZ (x * p) (y * p) = cmpZ x y := by
  rcases Nat.lt_trichotomy x y with h | h | h
  · rw [cmpZ_lt h, cmpZ_lt (Nat.mul_lt_mul_of_pos_right h hp)]
  · rw [h, cmpZ_eq rfl, cmpZ_eq rfl]
  · rw [cmpZ_gt h, cmpZ_gt (Nat.mul_lt_mul_of_pos_right h hp)]
theorem cmp_lead {V U : Nat} {e f : Int} (hV : V ≠ 0) (hU : U ≠ 0) (h : topD V e = topD U f) : leadD V U = cmpZ (sz V e) (sz U f) := by
  have h1 := sh_held e
  have h2 := sh_held f
  unfold topD at h
  have hv := blen_pos hV
  have hu := blen_pos hU
  unfold leadD sz
  rcases Nat.le_total (blen U) (blen V) with h3 | h3
  · have e1 : sh f = (blen V - blen U) + sh e := by omega
    rw [e1, Nat.sub_eq_zero_of_le h3, Nat.pow_add, ← Nat.mul_assoc, cmpZ_times (Nat.two_pow_pos _)]
    simp
  · have e1 : sh e = (blen U - blen V) + sh f := by omega
    rw [e1, Nat.sub_eq_zero_of_le h3, Nat.pow_add, ← Nat.mul_assoc, cmpZ_times (Nat.two_pow_pos _)]
    simp
/-- .. by cutting the longer one. -/
theorem lead_cut {V U d : Nat} (h : blen U ≤ blen V) (hd : blen V - blen U = d) :
    (V / 2 ^ d = U ∧ V % 2 ^ d ≠ 0 ∧ leadD V U = 1) ∨ ((V / 2 ^ d ≠ U ∨ V % 2 ^ d = 0) ∧ leadD V U = cmpZ (V / 2 ^ d) U) := by
  unfold leadD
  rw [hd, Nat.sub_eq_zero_of_le h, Nat.pow_zero, Nat.mul_one]
  have hp := Nat.two_pow_pos d
  have e := Nat.div_add_mod V (2 ^ d)
  have hr := Nat.mod_lt V hp
  generalize 2 ^ d = p at *
  generalize V / p = q at *
  generalize V % p = r at *
  rcases Nat.lt_trichotomy q U with h1 | h1 | h1
  · refine Or.inr ⟨Or.inl (by omega), ?_⟩
    rw [cmpZ_lt h1, cmpZ_lt]
    have := Nat.mul_le_mul_left p (show q + 1 ≤ U from h1)
    rw [Nat.mul_add, Nat.mul_one, Nat.mul_comm p U] at this
    omega
  · subst h1
    rw [Nat.mul_comm q p]
    by_cases h2 : r = 0
    · exact Or.inr ⟨Or.inr h2, by rw [cmpZ_eq rfl, cmpZ_eq (by omega)]⟩
    · exact Or.inl ⟨rfl, h2, cmpZ_gt (by omega)⟩
  · refine Or.inr ⟨Or.inl (by omega), ?_⟩
    rw [cmpZ_gt h1, cmpZ_gt]
    have := Nat.mul_le_mul_left p (show U + 1 ≤ q from h1)
    rw [Nat.mul_add, Nat.mul_one, Nat.mul_comm p U] at this
    omega
end Go.Proofs.YtijhdlkfihjbiaaGreatDoor
/- Words for a dyad in a block of its own; what tells a dyad. -/
namespace Go.Proofs.YtijhdlkfihjbiaaGreatDoor
open Go.RowKit

/-- Block b is a variable of type t that holds a dyad. -/
def Bd (w : World) (b t : Nat) (g : Bool) (A : Option Addr) (n c : Nat) (e : Int) : Prop := w.heap[b]? = some (.cells #[.bool g, .slice A n c, .int .i64 e] t)

section
variable {w w' : World} {b t : Nat} {g : Bool} {A : Option Addr} {n c : Nat} {e : Int}
theorem Bd.lt (h : Bd w b t g A n c e) : b < w.heap.size := by
  rcases Nat.lt_or_ge b w.heap.size with h' | h'
  · exact h'
  · rw [Bd, Array.getElem?_eq_none h'] at h; cases h
theorem Bd.new (w : World) (t : Nat) (g : Bool) (A : Option Addr) (n c : Nat) (e : Int) : Bd (w.alloc (.cells #[.bool g, .slice A n c, .int .i64 e] t)) w.heap.size t g A n c e := by
  show (w.heap.push _)[w.heap.size]? = _
  simp
theorem Bd.below (h : Bd w b t g A n c e) (hb : Below w.heap.size w w') : Bd w' b t g A n c e := by
  rw [Bd, hb.block b h.lt]; exact h
theorem Bd.alloc (h : Bd w b t g A n c e) (o : Obj) : Bd (w.alloc o) b t g A n c e := h.below ((Below.refl _ _).alloc (Nat.le_refl _) o)
theorem Bd.c0 (h : Bd w b t g A n c e) : w.cell? ⟨b, 0, none⟩ = some (.bool g) := by simp [World.cell?, show w.heap[b]? = _ from h]
theorem Bd.c1 (h : Bd w b t g A n c e) : w.cell? ⟨b, 1, none⟩ = some (.slice A n c) := by simp [World.cell?, show w.heap[b]? = _ from h]
theorem Bd.c2 (h : Bd w b t g A n c e) : w.cell? ⟨b, 2, none⟩ = some (.int .i64 e) := by simp [World.cell?, show w.heap[b]? = _ from h]
theorem Bd.fz (h : Bd w b t g A n c e) (o : Nat) : w.frozen? ⟨b, o, none⟩ = false := by simp [World.frozen?, show w.heap[b]? = _ from h]
/-- No cell of it is of kind k ≠ i64. -/
theorem Bd.not (h : Bd w b t g A n c e) {o : Nat} {k : IntKind} {z : Int} (hc : w.cell? ⟨b, o, none⟩ = some (.int k z)) : k = .i64 := by
  simp only [World.cell?, show w.heap[b]? = _ from h] at hc
  rcases o with _ | _ | _ | o
  · simp at hc
  · simp at hc
  · simp at hc; exact hc.1.symm
  · simp at hc

/-- A dyad laid into block b. -/
abbrev World.put (w : World) (b : Nat) (g : Bool) (A : Option Addr) (n c : Nat) (e : Int) : World :=
  ((w.setCell ⟨b, 0, none⟩ (.bool g)).setCell ⟨b, 1, none⟩ (.slice A n c)).setCell ⟨b, 2, none⟩ (.int .i64 e)
theorem put_heap (w : World) (b : Nat) (g : Bool) (A : Option Addr) (n c : Nat) (e : Int) (k : Nat) (hk : k ≠ b) : (World.put w b g A n c e).heap[k]? = w.heap[k]? := by
  unfold World.put
  rw [Below.heap_setCell _ _ _ _ hk, Below.heap_setCell _ _ _ _ hk, Below.heap_setCell _ _ _ _ hk]
theorem put_size (w : World) (b : Nat) (g : Bool) (A : Option Addr) (n c : Nat) (e : Int) : (World.put w b g A n c e).heap.size = w.heap.size := by
  simp [World.put, World.setCell]
theorem put_cell (w : World) (b : Nat) (g : Bool) (A : Option Addr) (n c : Nat) (e : Int) (p : Addr) (hp : p.block ≠ b) : (World.put w b g A n c e).cell? p = w.cell? p :=
  World.cell?_of_block (w := w) (put_heap w b g A n c e p.block hp)
theorem below_put {B : Nat} {a w : World} (h : Below B a w) {b : Nat} (hb : B ≤ b) (g : Bool) (A : Option Addr) (n c : Nat) (e : Int) : Below B a (World.put w b g A n c e) :=
  ((h.setCell (p := ⟨b, 0, none⟩) hb _).setCell (p := ⟨b, 1, none⟩) hb _).setCell (p := ⟨b, 2, none⟩) hb _
theorem Bd.put (h : Bd w b t g A n c e) (g' : Bool) (A' : Option Addr) (n' c' : Nat) (e' : Int) : Bd (World.put w b g' A' n' c' e') b t g' A' n' c' e' := by
  unfold Bd at h ⊢
  unfold World.put
  simp [World.setCell, Array.getElem?_modify, h]
theorem Bd.other (h : Bd w b t g A n c e) {b' : Nat} (hb : b ≠ b') (g' : Bool) (A' : Option Addr) (n' c' : Nat) (e' : Int) : Bd (World.put w b' g' A' n' c' e') b t g A n c e := by
  unfold Bd; rw [put_heap _ _ _ _ _ _ _ _ hb]; exact h
/-- A list isn't in such a block. -/
theorem Bd.lim (h : Bd w b t g A n c e) {A1 : Option Addr} {n1 c1 : Nat} {xs : List Nat} (hA : Lim w A1 n1 c1 xs) (g' : Bool) (A' : Option Addr) (n' c' : Nat) (e' : Int) : Lim (World.put w b g' A' n' c' e') A1 n1 c1 xs :=
  ⟨hA.1, hA.2.1, hA.2.2.1, fun hn => by
    obtain ⟨k, o, ek, hk, hc⟩ := hA.at_ hn
    have hne : k ≠ b := by
      rintro rfl
      have := h.not (hc 0 hn)
      cases this
    exact ⟨k, o, ek, by rw [put_size]; exact hk, fun j hj => by rw [put_cell _ _ _ _ _ _ _ _ hne]; exact hc j hj⟩⟩
theorem Bd.tab (h : Bd w b t g A n c e) (hT : Tab w) (g' : Bool) (A' : Option Addr) (n' c' : Nat) (e' : Int) : Tab (World.put w b g' A' n' c' e') := fun j hj => by
  have hne : 0 ≠ b := by
    intro hb
    have hc := hT j hj
    rw [hb] at hc
    have := h.not hc
    cases this
  rw [put_cell _ _ _ _ _ _ _ _ hne]; exact hT j hj
end

/-- The cells of two dyads. -/
abbrev Six (w' : World) (b1 : Nat) (g : Bool) (A : Option Addr) (n c : Nat) (e1 : Int) (b2 : Nat) (k : Bool) (B : Option Addr) (m d : Nat) (e2 : Int) : Prop :=
  w'.cell? ⟨b1, 0, none⟩ = some (.bool g) ∧ w'.cell? ⟨b1, 1, none⟩ = some (.slice A n c) ∧ w'.cell? ⟨b1, 2, none⟩ = some (.int .i64 e1) ∧ w'.cell? ⟨b2, 0, none⟩ = some (.bool k) ∧ w'.cell? ⟨b2, 1, none⟩ = some (.slice B m d) ∧ w'.cell? ⟨b2, 2, none⟩ = some (.int .i64 e2)
theorem Bd.six {w : World} {b1 t1 : Nat} {g : Bool} {A : Option Addr} {n c : Nat} {e1 : Int} {b2 t2 : Nat} {k : Bool} {B : Option Addr} {m d : Nat} {e2 : Int} (h1 : Bd w b1 t1 g A n c e1) (h2 : Bd w b2 t2 k B m d e2) : Six w b1 g A n c e1 b2 k B m d e2 :=
  ⟨h1.c0, h1.c1, h1.c2, h2.c0, h2.c1, h2.c2⟩
theorem Lim.drew {w : World} {A : Option Addr} {n c : Nat} {xs : List Nat} (h : Lim w A n c xs) : Lim w.drew A n c xs := h
theorem Bd.drew {w : World} {b t : Nat} {g : Bool} {A : Option Addr} {n c : Nat} {e : Int} (h : Bd w b t g A n c e) : Bd w.drew b t g A n c e := h

/-- What 'o' says of what was told. -/
def Is (o : Option Dy) (g : Bool) (V : Nat) (E r : Int) : Prop :=
  match o with
  | none => r = 2 ∧ g = false ∧ V = 0 ∧ E = 0
  | some d => r = 0 ∧ g = d.neg ∧ V = d.V ∧ E = d.e
/-- A dyad and an error. -/
def Told (w : World) (o : Option Dy) (L : Nat) (e : Ending) (w' : World) : Prop :=
  ∃ g A m c zs E r, e = .returned (.tuple #[.agg #[.bool g, .slice A m c, .int .i64 E], .int .i64 r]) ∧ m ≤ L ∧ Lim w' A m c zs ∧ Bare zs ∧ Is o g (val zs) E r ∧ Below w.heap.size w w'

theorem bits_l (v : Nat) (A : Option Addr) (n c : Nat) (xs : List Nat) (w : World) (hA : Lim w A n c xs) (hn : n ≤ 4398046511104) (hv : Hid (blen (val xs) = v)) :
    Calls Tryz.prog 50 #[.slice A n c] w fun e w' => e = .returned (.int .i64 (v : Int)) ∧ w = w' := by
  rw [← hv.out]; exact bits_any A n c xs w hA hn
theorem low_l (v : Nat) (A : Option Addr) (n c : Nat) (xs : List Nat) (w : World) (hA : Lim w A n c xs) (hn : n ≤ 4398046511104) (hT : Tab w) (hv : Hid (low (val xs) = v)) :
    Calls Tryz.prog 86 #[.slice A n c] w fun e w' => e = .returned (.int .i64 (v : Int)) ∧ w = w' := by
  rw [← hv.out]; exact low_any A n c xs w hA hn hT
theorem shr_l (N : Nat) (A : Option Addr) (n c : Nat) (xs : List Nat) (w : World) (hA : Lim w A n c xs) (hn : n ≤ 1099511627776) (hT : Tab w) (hN : N ≤ 9223372036854775807) (bb : Bool) (hbb : Hid (decide (val xs % 2 ^ N ≠ 0) = bb)) :
    Calls Tryz.prog 87 #[.slice A n c, .int .i64 (N : Int)] w (Tells2 w (val xs / 2 ^ N) n (.bool bb)) := by
  have h := shr_all A n c xs w hA hn hT (N : Int) (by omega)
  rw [Int.toNat_natCast, hbb.out] at h
  exact h
theorem below_box {w w' : World} {o : Obj} (h : Below (w.alloc o).heap.size (w.alloc o) w') : Below w.heap.size w w' := ((Below.refl _ _).alloc (Nat.le_refl _) _).trans (h.mono (by simp))

theorem held_l (e0 h : Int) (w : World) (hh : Hid (held e0 = h)) : Calls Tryz.prog 89 #[.int .i64 e0] w fun e w' => e = .returned (.int .i64 h) ∧ w = w' := by
  have H : Hid (min (max e0 (-2147483648)) 2147483648 = h) := hh
  go_enter Tryz.func89, Tryz.ntmps89
  go_wp2
  go_ret
  exact ⟨ret_int H.out, rfl⟩
end Go.Proofs.YtijhdlkfihjbiaaGreatDoor
/- What 64 bits are worth: fields, kinds, sizes, and the bits of a dyad. -/
namespace Go.Proofs.YtijhdlkfihjbiaaGreatDoor

def fex (b : Nat) : Nat := b / 4503599627370496 % 2048
def ffr (b : Nat) : Nat := b % 4503599627370496
/-- The size without the power, and the power's exponent from the least one. -/
def fm (b : Nat) : Nat := if fex b = 0 then ffr b else ffr b + 4503599627370496
def fE (b : Nat) : Nat := fex b - 1
/-- Its kind is 0 to 2. -/
def Fnt (b : Nat) : Prop := fex b ≠ 2047
instance (b : Nat) : Decidable (Fnt b) := inferInstanceAs (Decidable (fex b ≠ 2047))

theorem fex_lt (b : Nat) : fex b < 2048 := Nat.mod_lt _ (by decide)
theorem ffr_lt (b : Nat) : ffr b < 4503599627370496 := Nat.mod_lt _ (by decide)
theorem f_parts (b : Nat) : b % 9223372036854775808 = fE b * 4503599627370496 + fm b ∧ fm b < 9007199254740992 ∧ (0 < fE b → 4503599627370496 ≤ fm b) ∧ (Fnt b → fE b ≤ 2045) := by
  have h1 := fex_lt b
  have h2 := ffr_lt b
  have h3 : b % 9223372036854775808 = fex b * 4503599627370496 + ffr b := by unfold fex ffr; omega
  unfold Fnt
  unfold fE fm
  generalize fex b = x at *
  generalize ffr b = y at *
  generalize b % 9223372036854775808 = z at *
  rcases Nat.eq_zero_or_pos x with h | h
  · subst h
    rw [if_pos rfl]
    exact ⟨by rw [h3], by omega, by omega, by omega⟩
  · obtain ⟨k, rfl⟩ : ∃ k, x = k + 1 := ⟨x - 1, by omega⟩
    rw [if_neg (by omega), Nat.add_sub_cancel, h3]
    exact ⟨by rw [Nat.add_mul]; omega, by omega, by omega, by omega⟩
/-- A dyad as the document's number: odd, or 0. -/
def nO (g : Bool) (V : Nat) (e : Int) : Dy := if V = 0 then ⟨false, 0, 0⟩ else ⟨g, V / 2 ^ low V, held e + low V⟩
theorem nO_zero (g : Bool) (e : Int) : nO g 0 e = ⟨false, 0, 0⟩ := rfl
theorem nO_pos (g : Bool) {V : Nat} (e : Int) (h : V ≠ 0) : nO g V e = ⟨g, V / 2 ^ low V, held e + low V⟩ := if_neg h
theorem mk_nO (g : Bool) (V : Nat) (e : Int) : mk g V e = toldD (nO g V e).neg (nO g V e).V (nO g V e).e := by
  by_cases h : V = 0
  · subst h; rfl
  · rw [nO_pos g e h]; rfl
def Odd (d : Dy) : Prop := (∃ m, d.V = 2 * m + 1) ∨ d = ⟨false, 0, 0⟩
theorem nO_odd (g : Bool) (V : Nat) (e : Int) : Odd (nO g V e) := by
  by_cases h : V = 0
  · subst h; exact Or.inr rfl
  · rw [nO_pos g e h]
    obtain ⟨m, hm⟩ := low_spec (Nat.pos_of_ne_zero h)
    refine Or.inl ⟨m, ?_⟩
    show V / 2 ^ low V = 2 * m + 1
    have h2 := Nat.two_pow_pos (low V)
    generalize low V = l at *
    rw [hm, Nat.mul_div_cancel_left _ h2]
/-- What is odd stays as it is. -/
theorem nO_self {d : Dy} (h : Odd d) (h1 : -2147483648 ≤ d.e) (h2 : d.e ≤ 2147483648) : nO d.neg d.V d.e = d := by
  rcases h with ⟨m, hm⟩ | h
  · have hl : low d.V = 0 := low_eq (l := 0) (m := m) (by rw [hm]; omega)
    rw [nO_pos _ _ (by omega), hl, Nat.pow_zero, Nat.div_one]
    have : held d.e = d.e := by unfold held; omega
    rw [this]
    show Dy.mk d.neg d.V (d.e + ((0 : Nat) : Int)) = d
    rw [show ((0 : Nat) : Int) = 0 from rfl, Int.add_zero]
  · subst h; rfl

end Go.Proofs.YtijhdlkfihjbiaaGreatDoor
/- The walks of dyad.told, Make and Bare. -/
namespace Go.Proofs.YtijhdlkfihjbiaaGreatDoor
open Go.RowKit

theorem told_any (neg : Bool) (A : Option Addr) (n c : Nat) (xs : List Nat) (e0 : Int) (w : World) (hA : Lim w A n c xs) (hn : n ≤ 4398046511104) (hB : Bare xs) :
    Calls Tryz.prog 88 #[.bool neg, .slice A n c, .int .i64 e0] w (Told w (toldD neg (val xs) e0) n) := by
  obtain ⟨b, hb⟩ : ∃ b, blen (val xs) = b := ⟨_, rfl⟩
  have Hb := Lib.hid hb
  have a3 : ∀ o, Below w.heap.size w (w.alloc o) := fun o => (Below.refl _ _).alloc (Nat.le_refl _) o
  by_cases h0 : val xs = 0
  · obtain rfl : b = 0 := by rw [← hb, h0]; rfl
    have Hfin : Hid (Told w (toldD neg (val xs) e0) n (.returned (.tuple #[.agg #[.bool false, .slice none 0 0, .int .i64 0], .int .i64 0])) (w.alloc (.cells #[.bool false, .slice none 0 0, .int .i64 0] 32))) :=
      ⟨false, none, 0, 0, [], 0, 0, rfl, Nat.zero_le _, Lim.nil _ _ _, rfl, by rw [h0, toldD_zero]; exact ⟨rfl, rfl, rfl, rfl⟩, a3 _⟩
    have HA := Lib.hid hA
    clear hA hB h0 a3 hb
    go_enter Tryz.func88, Tryz.ntmps88
    go_wp2_with fail
    refine (bits_l 0 A n c xs _ (HA.out.alloc _) (by omega) Hb).mono ?_
    rintro e w' ⟨rfl, rfl⟩
    go_wp2
    exact bodyPost_ret (v := .tuple #[.agg #[.bool false, .slice none 0 0, .int .i64 0], .int .i64 0]) (by simp [results, Tryz.results88, go_sem]) rfl Hfin.out
  · have hb1 : b ≠ 0 := fun h => h0 (blen_zero_iff.1 (hb.trans h))
    have hb2 : decide ((b : Int) = 0) = false := decide_eq_false (by omega)
    by_cases h1 : e0 < -1073741824 ∨ 1073741824 < e0
    · have Hfin : Hid (Told w (toldD neg (val xs) e0) n (.returned (.tuple #[.agg #[.bool false, .slice none 0 0, .int .i64 0], .int .i64 2])) (w.alloc (.cells #[.bool false, .slice none 0 0, .int .i64 0] 32))) :=
        ⟨false, none, 0, 0, [], 0, 2, rfl, Nat.zero_le _, Lim.nil _ _ _, rfl, by rw [toldD, if_neg h0, if_pos h1]; exact ⟨rfl, rfl, rfl, rfl⟩, a3 _⟩
      have HA := Lib.hid hA
      clear hA hB h0 a3 hb
      rcases h1 with h1 | h1
      · go_enter Tryz.func88, Tryz.ntmps88
        go_wp2_with fail
        refine (bits_l b A n c xs _ (HA.out.alloc _) (by omega) Hb).mono ?_
        rintro e w' ⟨rfl, rfl⟩
        go_wp2
        exact bodyPost_ret (v := .tuple #[.agg #[.bool false, .slice none 0 0, .int .i64 0], .int .i64 2]) (by simp [results, Tryz.results88, go_sem]) rfl Hfin.out
      · have h2 : decide (e0 < -1073741824) = false := decide_eq_false (by omega)
        go_enter Tryz.func88, Tryz.ntmps88
        go_wp2_with fail
        refine (bits_l b A n c xs _ (HA.out.alloc _) (by omega) Hb).mono ?_
        rintro e w' ⟨rfl, rfl⟩
        go_wp2
        exact bodyPost_ret (v := .tuple #[.agg #[.bool false, .slice none 0 0, .int .i64 0], .int .i64 2]) (by simp [results, Tryz.results88, go_sem]) rfl Hfin.out
    · have Hfin : Hid (Told w (toldD neg (val xs) e0) n (.returned (.tuple #[.agg #[.bool neg, .slice A n c, .int .i64 e0], .int .i64 0])) (w.alloc (.cells #[.bool neg, .slice A n c, .int .i64 e0] 32))) :=
        ⟨neg, A, n, c, xs, e0, 0, rfl, Nat.le_refl _, hA.alloc _, hB, by rw [toldD, if_neg h0, if_neg h1]; exact ⟨rfl, rfl, rfl, rfl⟩, a3 _⟩
      have HA := Lib.hid hA
      have h2 : decide (e0 < -1073741824) = false := decide_eq_false (by omega)
      have h3 : decide (1073741824 < e0) = false := decide_eq_false (by omega)
      clear hA hB h0 a3 hb h1
      go_enter Tryz.func88, Tryz.ntmps88
      go_wp2_with fail
      refine (bits_l b A n c xs _ (HA.out.alloc _) (by omega) Hb).mono ?_
      rintro e w' ⟨rfl, rfl⟩
      go_wp2
      exact bodyPost_ret (v := .tuple #[.agg #[.bool neg, .slice A n c, .int .i64 e0], .int .i64 0]) (by simp [results, Tryz.results88, go_sem]) rfl Hfin.out

theorem low_le_blen (V : Nat) : low V ≤ blen V := by
  rcases Nat.eq_zero_or_pos V with h | h
  · rw [h]; decide
  · obtain ⟨m, hm⟩ := low_spec h
    have h1 := lt_blen V
    rcases Nat.le_total (low V) (blen V) with h2 | h2
    · exact h2
    · have h3 : (2 : Nat) ^ blen V ≤ 2 ^ low V := Nat.pow_le_pow_right (by decide) h2
      have h4 : 2 ^ low V * 1 ≤ 2 ^ low V * (2 * m + 1) := Nat.mul_le_mul_left _ (by omega)
      omega

theorem make_any (neg : Bool) (A : Option Addr) (n c : Nat) (xs : List Nat) (e0 : Int) (w : World) (hA : Lim w A n c xs) (hn : n ≤ 4294967296) (hT : Tab w) :
    Calls Tryz.prog 48 #[.bool neg, .slice A n c, .int .i64 e0] w (Told w (mk neg (val xs) e0) n) := by
  have hl9 := low_le_blen (val xs)
  have hl8 := hA.blen_le
  have Hm : Hid (mk neg (val xs) e0 = toldD neg (val xs / 2 ^ low (val xs)) (held e0 + low (val xs))) := rfl
  obtain ⟨l, hl⟩ : ∃ l, low (val xs) = l := ⟨_, rfl⟩
  obtain ⟨h, hh⟩ : ∃ h, held e0 = h := ⟨_, rfl⟩
  rw [hl, hh] at Hm
  have hb := held_bd e0
  rw [hh] at hb
  rw [hl] at hl9
  have hl7 : l ≤ 64 * n := by omega
  obtain ⟨bb, hbb⟩ : ∃ bb, decide (val xs % 2 ^ l ≠ 0) = bb := ⟨_, rfl⟩
  have HA := Lib.hid hA
  have HT := Lib.hid hT
  have Hhh := Lib.hid hh
  have Hhl := Lib.hid hl
  have Hbb := Lib.hid hbb
  clear hA hT hl hh hbb hl9 hl8
  go_enter Tryz.func48, Tryz.ntmps48
  go_wp2_with fail
  have a3 : Below w.heap.size w (w.alloc (.cells #[.bool false, .slice none 0 0, .int .i64 0] 32)) := (Below.refl _ _).alloc (Nat.le_refl _) _
  have HA3 := Lib.hid (HA.out.below a3)
  have HT3 := Lib.hid (HT.out.below a3)
  have HB3 := Lib.hid (Bd.new w 32 false none 0 0 0)
  have H3 := Lib.hid a3
  clear HA HT a3
  refine (low_l l A n c xs _ HA3.out (by omega) HT3.out Hhl).mono ?_
  rintro e w' ⟨rfl, rfl⟩
  go_wp2_with fail
  refine (shr_l l A n c xs _ HA3.out (by omega) HT3.out (by omega) bb Hbb).mono ?_
  rintro e w1 ⟨A1, m1, c1, us, rfl, hm1, hl1, hb1, hv1, hB1⟩
  have HB1 := Lib.hid (HB3.out.below hB1)
  have HS1 := Lib.hid (below_box hB1)
  have H1 := Lib.hid (told_any neg A1 m1 c1 us (h + l) w1 hl1 (by omega) hb1)
  rw [hv1, ← Hm.out] at H1
  clear hB1 hl1 hb1 hv1 HA3 HT3 HB3 H3 Hbb Hhl
  go_wp2_with fail
  refine (held_l e0 h w1 Hhh).mono ?_
  rintro e w' ⟨rfl, rfl⟩
  go_wp2_with fail
  refine H1.out.mono ?_
  rintro e w2 ⟨g, A2, m2, c2, zs, E, r, rfl, hm2, hl2, hb2, his, hB2⟩
  have HB2 := HB1.out.below hB2
  have Hfin : Hid (Told w (mk neg (val xs) e0) n (.returned (.tuple #[.agg #[.bool g, .slice A2 m2 c2, .int .i64 E], .int .i64 r])) (World.put w2 w.heap.size g A2 m2 c2 E)) :=
    ⟨g, A2, m2, c2, zs, E, r, rfl, by omega, HB2.lim hl2 _ _ _ _ _, hb2, his, below_put (HS1.out.trans (hB2.mono HS1.out.size)) (Nat.le_refl _) _ _ _ _ _⟩
  have x0 := HB2.c0
  have x1 := HB2.c1
  have x2 := HB2.c2
  have xf := HB2.fz
  clear HB2 hB2 HB1 H1 hl2 hb2 his HS1 Hm Hhh
  go_wp2
  exact bodyPost_ret (v := .tuple #[.agg #[.bool g, .slice A2 m2 c2, .int .i64 E], .int .i64 r]) (by simp [results, Tryz.results48, go_sem, x0, x1, x2]) rfl Hfin.out

theorem dbare_any (neg : Bool) (A : Option Addr) (n c : Nat) (xs : List Nat) (e0 : Int) (w : World) (hA : Lim w A n c xs) (hn : n ≤ 4294967296) (hT : Tab w) :
    Calls Tryz.prog 61 #[.agg #[.bool neg, .slice A n c, .int .i64 e0]] w (Told w (mk neg (val xs) e0) n) := by
  have a3 : Below w.heap.size w ((w.alloc (.cells #[.bool neg, .slice A n c, .int .i64 e0] 32)).alloc (.cells #[.bool false, .slice none 0 0, .int .i64 0] 32)) := ((Below.refl _ _).alloc (Nat.le_refl _) _).alloc (by simp) _
  have H1 := Lib.hid (make_any neg A n c xs e0 _ (hA.below a3) hn (hT.below a3))
  have HB3 := Lib.hid (Bd.new (w.alloc (.cells #[.bool neg, .slice A n c, .int .i64 e0] 32)) 32 false none 0 0 0)
  have H3 := Lib.hid a3
  clear a3 hA hT
  go_enter Tryz.func61, Tryz.ntmps61
  go_wp2_with fail
  refine H1.out.mono ?_
  rintro e w2 ⟨g, A2, m2, c2, zs, E, r, rfl, hm2, hl2, hb2, his, hB2⟩
  have HB2 := HB3.out.below hB2
  have Hfin : Hid (Told w (mk neg (val xs) e0) n (.returned (.tuple #[.agg #[.bool g, .slice A2 m2 c2, .int .i64 E], .int .i64 r])) (World.put w2 (w.heap.size + 1) g A2 m2 c2 E)) :=
    ⟨g, A2, m2, c2, zs, E, r, rfl, by omega, by have := HB2.lim hl2 g A2 m2 c2 E; simpa using this, hb2, his, below_put (H3.out.trans (hB2.mono H3.out.size)) (Nat.le_succ _) _ _ _ _ _⟩
  have HB4 : Bd w2 (w.heap.size + 1) 32 false none 0 0 0 := by simpa using HB2
  have x0 := HB4.c0
  have x1 := HB4.c1
  have x2 := HB4.c2
  have xf := HB4.fz
  clear HB2 HB4 hB2 HB3 H1 hl2 hb2 his H3
  go_wp2
  exact bodyPost_ret (v := .tuple #[.agg #[.bool g, .slice A2 m2 c2, .int .i64 E], .int .i64 r]) (by simp [results, Tryz.results61, go_sem, x0, x1, x2]) rfl Hfin.out
end Go.Proofs.YtijhdlkfihjbiaaGreatDoor
/- The walks of dyad.Sign, Top, leading, sizes and Cmp. -/
namespace Go.Proofs.YtijhdlkfihjbiaaGreatDoor
open Go.RowKit

theorem below1 (w : World) (o : Obj) : Below w.heap.size w (w.alloc o) := (Below.refl _ _).alloc (Nat.le_refl _) o

theorem sign_l (v : Int) (g : Bool) (A : Option Addr) (n c : Nat) (xs : List Nat) (e0 : Int) (w : World) (hA : Lim w A n c xs) (hn : n ≤ 4398046511104) (hv : Hid (sgD g (val xs) = v)) :
    Calls Tryz.prog 17 #[.agg #[.bool g, .slice A n c, .int .i64 e0]] w fun e w' => e = .returned (.int .i64 v) ∧ Below w.heap.size w w' := by
  obtain ⟨b, hb⟩ : ∃ b, blen (val xs) = b := ⟨_, rfl⟩
  have HA := Lib.hid (hA.alloc (.cells #[.bool g, .slice A n c, .int .i64 e0] 32))
  have H1 := Lib.hid (below1 w (.cells #[.bool g, .slice A n c, .int .i64 e0] 32))
  have Hb := Lib.hid hb
  have hv' := hv.out
  clear hv
  by_cases h0 : val xs = 0
  · obtain rfl : b = 0 := by rw [← hb, h0]; rfl
    obtain rfl : v = 0 := by rw [← hv', h0]; rfl
    clear hA h0 hv' hb
    go_enter Tryz.func17, Tryz.ntmps17
    go_wp2_with fail
    refine (bits_l 0 A n c xs _ HA.out (by omega) Hb).mono ?_
    rintro e w' ⟨rfl, rfl⟩
    go_wp2
    go_ret
    exact ⟨rfl, H1.out⟩
  · have hb1 : b ≠ 0 := fun h => h0 (blen_zero_iff.1 (hb.trans h))
    have hb2 : decide ((b : Int) = 0) = false := decide_eq_false (by omega)
    rw [sgD, if_neg h0] at hv'
    clear hA h0 hb
    cases g
    · obtain rfl : v = 1 := hv'.symm
      go_enter Tryz.func17, Tryz.ntmps17
      go_wp2_with fail
      refine (bits_l b A n c xs _ HA.out (by omega) Hb).mono ?_
      rintro e w' ⟨rfl, rfl⟩
      go_wp2
      go_ret
      exact ⟨rfl, H1.out⟩
    · obtain rfl : v = -1 := hv'.symm
      go_enter Tryz.func17, Tryz.ntmps17
      go_wp2_with fail
      refine (bits_l b A n c xs _ HA.out (by omega) Hb).mono ?_
      rintro e w' ⟨rfl, rfl⟩
      go_wp2
      go_ret
      exact ⟨rfl, H1.out⟩

theorem top_l (v : Int) (g : Bool) (A : Option Addr) (n c : Nat) (xs : List Nat) (e0 : Int) (w : World) (hA : Lim w A n c xs) (hn : n ≤ 4294967296) (h0 : val xs ≠ 0) (hv : Hid (topD (val xs) e0 = v)) :
    Calls Tryz.prog 63 #[.agg #[.bool g, .slice A n c, .int .i64 e0]] w fun e w' => e = .returned (.tuple #[.int .i64 v, .bool true]) ∧ Below w.heap.size w w' := by
  obtain ⟨b, hb⟩ : ∃ b, blen (val xs) = b := ⟨_, rfl⟩
  obtain ⟨h, hh⟩ : ∃ h, held e0 = h := ⟨_, rfl⟩
  have HA := Lib.hid (hA.alloc (.cells #[.bool g, .slice A n c, .int .i64 e0] 32))
  have H1 := Lib.hid (below1 w (.cells #[.bool g, .slice A n c, .int .i64 e0] 32))
  have Hb := Lib.hid hb
  have Hh := Lib.hid hh
  have hbl := hA.blen_le
  have hhb := held_bd e0
  have hv' := hv.out
  rw [topD, hb, hh] at hv'
  rw [hb] at hbl
  rw [hh] at hhb
  have hb1 : b ≠ 0 := fun h => h0 (blen_zero_iff.1 (hb.trans h))
  have hb2 : decide ((b : Int) = 0) = false := decide_eq_false (by omega)
  have Hv : Hid ((b : Int) - 1 + h = v) := hv'
  clear hA h0 hb hh hv hv'
  go_enter Tryz.func63, Tryz.ntmps63
  go_wp2_with fail
  refine (bits_l b A n c xs _ HA.out (by omega) Hb).mono ?_
  rintro e w' ⟨rfl, rfl⟩
  go_wp2_with fail
  refine (held_l e0 h _ Hh).mono ?_
  rintro e w' ⟨rfl, rfl⟩
  go_wp2
  go_ret2
  exact ⟨by rw [← Hv.out]; rfl, H1.out⟩

theorem isnan_l (x : Int) (w : World) : Calls Tryz.prog 62 #[.int .i64 x] w fun e w' => e = .returned (.bool false) ∧ w = w' := by
  go_enter Tryz.func62, Tryz.ntmps62
  go_wp2
  go_ret
  exact ⟨by simp, rfl⟩
theorem compare_l (x y v : Int) (w : World) (hv : Hid (cmpI x y = v)) : Calls Tryz.prog 27 #[.int .i64 x, .int .i64 y] w fun e w' => e = .returned (.int .i64 v) ∧ w = w' := by
  have hv' := hv.out
  clear hv
  rcases Int.lt_trichotomy x y with h | h | h
  · rw [cmpI_lt h] at hv'
    subst hv'
    go_enter Tryz.func27, Tryz.ntmps27
    go_wp2_with fail
    refine (isnan_l x w).mono ?_
    rintro e w' ⟨rfl, rfl⟩
    go_wp2_with fail
    refine (isnan_l y w).mono ?_
    rintro e w' ⟨rfl, rfl⟩
    go_wp2
    go_ret
    exact ⟨rfl, rfl⟩
  · rw [cmpI_eq h] at hv'
    subst hv'
    subst h
    go_enter Tryz.func27, Tryz.ntmps27
    go_wp2_with fail
    refine (isnan_l x w).mono ?_
    rintro e w' ⟨rfl, rfl⟩
    go_wp2_with fail
    refine (isnan_l x w).mono ?_
    rintro e w' ⟨rfl, rfl⟩
    go_wp2
    go_ret
    exact ⟨rfl, rfl⟩
  · rw [cmpI_gt h] at hv'
    subst hv'
    have h1 : decide (x < y) = false := decide_eq_false (by omega)
    go_enter Tryz.func27, Tryz.ntmps27
    go_wp2_with fail
    refine (isnan_l x w).mono ?_
    rintro e w' ⟨rfl, rfl⟩
    go_wp2_with fail
    refine (isnan_l y w).mono ?_
    rintro e w' ⟨rfl, rfl⟩
    go_wp2
    go_ret
    exact ⟨rfl, rfl⟩

theorem lead_ge (v : Int) (A : Option Addr) (n c : Nat) (xs : List Nat) (B : Option Addr) (m d : Nat) (ys : List Nat) (w : World) (hA : Lim w A n c xs) (hB : Lim w B m d ys) (hn : n ≤ 4294967296) (hm : m ≤ 4294967296) (hT : Tab w) (hle : blen (val ys) ≤ blen (val xs)) (hv : Hid (leadD (val xs) (val ys) = v)) :
    Calls Tryz.prog 64 #[.slice A n c, .slice B m d] w fun e w' => e = .returned (.int .i64 v) ∧ Below w.heap.size w w' := by
  obtain ⟨k, hk⟩ : ∃ k, blen (val xs) - blen (val ys) = k := ⟨_, rfl⟩
  have hcut := lead_cut hle hk
  rw [hv.out] at hcut
  obtain ⟨bx, hbx⟩ : ∃ b, blen (val xs) = b := ⟨_, rfl⟩
  obtain ⟨by_, hby⟩ : ∃ b, blen (val ys) = b := ⟨_, rfl⟩
  obtain ⟨bb, hbb⟩ : ∃ bb, decide (val xs % 2 ^ k ≠ 0) = bb := ⟨_, rfl⟩
  obtain ⟨f, hf⟩ : ∃ f, cmpZ (val xs / 2 ^ k) (val ys) = f := ⟨_, rfl⟩
  have hcase : (f = 0 ∧ bb = true ∧ v = 1) ∨ (f = 0 ∧ bb = false ∧ v = 0) ∨ (f ≠ 0 ∧ v = f) := by
    rcases hcut with ⟨h1, h2, h3⟩ | ⟨h1, h3⟩
    · exact Or.inl ⟨by rw [← hf]; exact cmpZ_eq h1, by rw [← hbb]; exact decide_eq_true h2, h3⟩
    · by_cases h0 : f = 0
      · have h4 : val xs / 2 ^ k = val ys := by
          rw [← hf] at h0
          rcases Nat.lt_trichotomy (val xs / 2 ^ k) (val ys) with h | h | h
          · rw [cmpZ_lt h] at h0; omega
          · exact h
          · rw [cmpZ_gt h] at h0; omega
        have h5 : val xs % 2 ^ k = 0 := by rcases h1 with h1 | h1; exact absurd h4 h1; exact h1
        exact Or.inr (Or.inl ⟨h0, by rw [← hbb]; exact decide_eq_false (fun h => h h5), by rw [h3, hf, h0]⟩)
      · exact Or.inr (Or.inr ⟨h0, by rw [h3, hf]⟩)
  have hbl := hA.blen_le
  have hbl2 := hB.blen_le
  rw [hbx, hby] at hk hle
  rw [hbx] at hbl
  rw [hby] at hbl2
  have hki : (bx : Int) - by_ = (k : Int) := by omega
  have hk9 : k ≤ 64 * n := by omega
  have Hx := Lib.hid hbx
  have Hy := Lib.hid hby
  have HA := Lib.hid hA
  have HB := Lib.hid hB
  have HT := Lib.hid hT
  have Hbb := Lib.hid hbb
  have Hf := Lib.hid hf
  clear hA hB hT hbx hby hbb hf hcut hv hk hle
  go_enter Tryz.func64, Tryz.ntmps64
  go_wp2_with fail
  refine (bits_l bx A n c xs _ HA.out (by omega) Hx).mono ?_
  rintro e w' ⟨rfl, rfl⟩
  go_wp2_with fail
  refine (bits_l by_ B m d ys _ HB.out (by omega) Hy).mono ?_
  rintro e w' ⟨rfl, rfl⟩
  go_wp2_with fail
  refine (shr_l k A n c xs _ HA.out (by omega) HT.out (by omega) bb Hbb).mono ?_
  rintro e w1 ⟨A1, m1, c1, us, rfl, hm1, hl1, hb1, hv1, hB1⟩
  have H2 := Lib.hid (cmp_b f A1 m1 c1 us B m d ys w1 hl1 (HB.out.below hB1) (by omega) (by omega) (by rw [hv1]; exact Hf))
  have HS := Lib.hid hB1
  clear hl1 hb1 hv1 hB1 HA HB HT Hx Hy Hbb Hf
  rcases hcase with ⟨rfl, rfl, rfl⟩ | ⟨rfl, rfl, rfl⟩ | ⟨hf0, rfl⟩
  · go_wp2_with fail
    refine H2.out.mono ?_
    rintro e w2 ⟨rfl, hB2⟩
    have Hfin := Lib.hid (HS.out.trans (hB2.mono HS.out.size))
    clear hB2 HS H2
    go_wp2
    go_ret
    exact ⟨rfl, Hfin.out⟩
  · go_wp2_with fail
    refine H2.out.mono ?_
    rintro e w2 ⟨rfl, hB2⟩
    have Hfin := Lib.hid (HS.out.trans (hB2.mono HS.out.size))
    clear hB2 HS H2
    go_wp2
    go_ret
    exact ⟨rfl, Hfin.out⟩
  · have hf1 : decide (v = 0) = false := decide_eq_false hf0
    go_wp2_with fail
    refine H2.out.mono ?_
    rintro e w2 ⟨rfl, hB2⟩
    have Hfin := Lib.hid (HS.out.trans (hB2.mono HS.out.size))
    clear hB2 HS H2
    go_wp2
    go_ret
    exact ⟨rfl, Hfin.out⟩

theorem lead_any (v : Int) (A : Option Addr) (n c : Nat) (xs : List Nat) (B : Option Addr) (m d : Nat) (ys : List Nat) (w : World) (hA : Lim w A n c xs) (hB : Lim w B m d ys) (hn : n ≤ 4294967296) (hm : m ≤ 4294967296) (hT : Tab w) (hv : Hid (leadD (val xs) (val ys) = v)) :
    Calls Tryz.prog 64 #[.slice A n c, .slice B m d] w fun e w' => e = .returned (.int .i64 v) ∧ Below w.heap.size w w' := by
  rcases Nat.lt_or_ge (blen (val xs)) (blen (val ys)) with hlt | hle
  · have hvb := cmpZ_bd (val xs * 2 ^ (blen (val ys) - blen (val xs))) (val ys * 2 ^ (blen (val xs) - blen (val ys)))
    rw [show cmpZ _ _ = v from hv.out] at hvb
    obtain ⟨u, hu⟩ : ∃ u, leadD (val ys) (val xs) = u := ⟨_, rfl⟩
    have huv : u = -v := by rw [← hu, leadD_swap, hv.out]
    have H1 := Lib.hid (lead_ge u B m d ys A n c xs w hB hA hm hn hT (by omega) hu)
    obtain ⟨bx, hbx⟩ : ∃ b, blen (val xs) = b := ⟨_, rfl⟩
    obtain ⟨by_, hby⟩ : ∃ b, blen (val ys) = b := ⟨_, rfl⟩
    rw [hbx, hby] at hlt
    have hbl := hA.blen_le
    have hbl2 := hB.blen_le
    rw [hbx] at hbl
    rw [hby] at hbl2
    have Hx := Lib.hid hbx
    have Hy := Lib.hid hby
    have HA := Lib.hid hA
    have HB := Lib.hid hB
    have hlt' : decide ((bx : Int) - by_ < 0) = true := decide_eq_true (by omega)
    have hub : -1 ≤ u ∧ u ≤ 1 := by omega
    have Huv : Hid (-u = v) := by show -u = v; omega
    clear hA hB hT hbx hby hu huv hv hvb
    go_enter Tryz.func64, Tryz.ntmps64
    go_wp2_with fail
    refine (bits_l bx A n c xs _ HA.out (by omega) Hx).mono ?_
    rintro e w' ⟨rfl, rfl⟩
    go_wp2_with fail
    refine (bits_l by_ B m d ys _ HB.out (by omega) Hy).mono ?_
    rintro e w' ⟨rfl, rfl⟩
    go_wp2_with fail
    refine H1.out.mono ?_
    rintro e w1 ⟨rfl, hB1⟩
    have Hfin := Lib.hid hB1
    clear hB1 H1 HA HB Hx Hy
    go_wp2
    go_ret
    exact ⟨ret_int Huv.out, Hfin.out⟩
  · exact lead_ge v A n c xs B m d ys w hA hB hn hm hT hle hv

theorem sizes_l (v : Int) (g : Bool) (A : Option Addr) (n c : Nat) (xs : List Nat) (e1 : Int) (k : Bool) (B : Option Addr) (m d : Nat) (ys : List Nat) (e2 : Int) (w : World) (hA : Lim w A n c xs) (hB : Lim w B m d ys) (hn : n ≤ 4294967296) (hm : m ≤ 4294967296) (hT : Tab w) (hx : val xs ≠ 0) (hy : val ys ≠ 0) (hv : Hid (cmpZ (sz (val xs) e1) (sz (val ys) e2) = v)) :
    Calls Tryz.prog 28 #[.agg #[.bool g, .slice A n c, .int .i64 e1], .agg #[.bool k, .slice B m d, .int .i64 e2]] w fun e w' => e = .returned (.int .i64 v) ∧ Below w.heap.size w w' := by
  obtain ⟨t1, ht1⟩ : ∃ t, topD (val xs) e1 = t := ⟨_, rfl⟩
  obtain ⟨t2, ht2⟩ : ∃ t, topD (val ys) e2 = t := ⟨_, rfl⟩
  have a3 : Below w.heap.size w ((w.alloc (.cells #[.bool g, .slice A n c, .int .i64 e1] 32)).alloc (.cells #[.bool k, .slice B m d, .int .i64 e2] 32)) := ((Below.refl _ _).alloc (Nat.le_refl _) _).alloc (by simp) _
  have b1 := (Bd.new w 32 g A n c e1).alloc (.cells #[.bool k, .slice B m d, .int .i64 e2] 32)
  have b2 := Bd.new (w.alloc (.cells #[.bool g, .slice A n c, .int .i64 e1] 32)) 32 k B m d e2
  rw [World.size_alloc] at b2
  have HS := Lib.hid a3
  have Hb1 := Lib.hid b1
  have Hb2 := Lib.hid b2
  have HA := Lib.hid (hA.below a3)
  have HB := Lib.hid (hB.below a3)
  have HT := Lib.hid (hT.below a3)
  have Ht1 := Lib.hid ht1
  have Ht2 := Lib.hid ht2
  have hcase : (t1 ≠ t2 ∧ Hid (cmpI t1 t2 = v)) ∨ (t1 = t2 ∧ Hid (leadD (val xs) (val ys) = v)) := by
    by_cases h : t1 = t2
    · exact Or.inr ⟨h, (cmp_lead hx hy (by rw [ht1, ht2, h])).trans hv.out⟩
    · exact Or.inl ⟨h, by have := cmp_tops hx hy (e := e1) (f := e2) (by rw [ht1, ht2]; exact h); rw [ht1, ht2] at this; exact this.trans hv.out⟩
  clear hA hB hT a3 b1 b2 ht1 ht2 hv
  go_enter Tryz.func28, Tryz.ntmps28
  go_wp2_with fail
  refine (top_l t1 g A n c xs e1 _ HA.out (by omega) hx Ht1).mono ?_
  rintro e w1 ⟨rfl, hB1⟩
  replace HS := Lib.hid (HS.out.trans (hB1.mono HS.out.size))
  replace Hb1 := Lib.hid (Hb1.out.below hB1)
  replace Hb2 := Lib.hid (Hb2.out.below hB1)
  replace HA := Lib.hid (HA.out.below hB1)
  replace HB := Lib.hid (HB.out.below hB1)
  replace HT := Lib.hid (HT.out.below hB1)
  have x0 := Hb2.out.c0
  have x1 := Hb2.out.c1
  have x2 := Hb2.out.c2
  clear hB1
  go_wp2_with fail
  refine (top_l t2 k B m d ys e2 _ HB.out (by omega) hy Ht2).mono ?_
  rintro e w2 ⟨rfl, hB1⟩
  replace HS := Lib.hid (HS.out.trans (hB1.mono HS.out.size))
  replace Hb1 := Lib.hid (Hb1.out.below hB1)
  replace Hb2 := Lib.hid (Hb2.out.below hB1)
  replace HA := Lib.hid (HA.out.below hB1)
  replace HB := Lib.hid (HB.out.below hB1)
  replace HT := Lib.hid (HT.out.below hB1)
  clear hB1 x0 x1 x2
  rcases hcase with ⟨hne, hv⟩ | ⟨rfl, hv⟩
  · have h1 : decide (t1 = t2) = false := decide_eq_false hne
    go_wp2_with fail
    refine (compare_l t1 t2 v w2 hv).mono ?_
    rintro e w' ⟨rfl, rfl⟩
    go_wp2
    go_ret
    exact ⟨rfl, HS.out⟩
  · have x1 := Hb1.out.c1
    have y1 := Hb2.out.c1
    go_wp2_with fail
    refine (lead_any v A n c xs B m d ys w2 HA.out HB.out hn hm HT.out hv).mono ?_
    rintro e w3 ⟨rfl, hB1⟩
    replace HS := Lib.hid (HS.out.trans (hB1.mono HS.out.size))
    clear hB1 x1 y1
    go_wp2
    go_ret
    exact ⟨rfl, HS.out⟩
end Go.Proofs.YtijhdlkfihjbiaaGreatDoor
/- The walk of dyad.Cmp. -/
namespace Go.Proofs.YtijhdlkfihjbiaaGreatDoor
open Go.RowKit

/-- What is held while the two signs are asked for. -/
def Held2 (w0 : World) (b1 : Nat) (g : Bool) (A : Option Addr) (n c : Nat) (xs : List Nat) (e1 : Int) (b2 : Nat) (k : Bool) (B : Option Addr) (m d : Nat) (ys : List Nat) (e2 : Int) (w : World) : Prop :=
  Bd w b1 32 g A n c e1 ∧ Bd w b2 32 k B m d e2 ∧ Lim w A n c xs ∧ Lim w B m d ys ∧ Tab w ∧ Below w0.heap.size w0 w
theorem Held2.below {w0 : World} {b1 : Nat} {g : Bool} {A : Option Addr} {n c : Nat} {xs : List Nat} {e1 : Int} {b2 : Nat} {k : Bool} {B : Option Addr} {m d : Nat} {ys : List Nat} {e2 : Int} {w w' : World}
    (h : Held2 w0 b1 g A n c xs e1 b2 k B m d ys e2 w) (hb : Below w.heap.size w w') : Held2 w0 b1 g A n c xs e1 b2 k B m d ys e2 w' := by
  obtain ⟨h1, h2, h3, h4, h5, h6⟩ := h
  exact ⟨h1.below hb, h2.below hb, h3.below hb, h4.below hb, h5.below hb, h6.trans (hb.mono h6.size)⟩

/-- .. with the cells spelt out. -/
abbrev Cells2 (w0 : World) (b1 : Nat) (g : Bool) (A : Option Addr) (n c : Nat) (xs : List Nat) (e1 : Int) (b2 : Nat) (k : Bool) (B : Option Addr) (m d : Nat) (ys : List Nat) (e2 : Int) (w' : World) : Prop :=
  w'.cell? ⟨b1, 0, none⟩ = some (.bool g) ∧ w'.cell? ⟨b1, 1, none⟩ = some (.slice A n c) ∧ w'.cell? ⟨b1, 2, none⟩ = some (.int .i64 e1) ∧ w'.cell? ⟨b2, 0, none⟩ = some (.bool k) ∧ w'.cell? ⟨b2, 1, none⟩ = some (.slice B m d) ∧ w'.cell? ⟨b2, 2, none⟩ = some (.int .i64 e2) ∧ Hid (Held2 w0 b1 g A n c xs e1 b2 k B m d ys e2 w')
theorem Held2.cells {w0 : World} {b1 : Nat} {g : Bool} {A : Option Addr} {n c : Nat} {xs : List Nat} {e1 : Int} {b2 : Nat} {k : Bool} {B : Option Addr} {m d : Nat} {ys : List Nat} {e2 : Int} {w : World}
    (h : Held2 w0 b1 g A n c xs e1 b2 k B m d ys e2 w) : Cells2 w0 b1 g A n c xs e1 b2 k B m d ys e2 w := ⟨h.1.c0, h.1.c1, h.1.c2, h.2.1.c0, h.2.1.c1, h.2.1.c2, h⟩
theorem Held2.start (w : World) (g : Bool) (A : Option Addr) (n c : Nat) (xs : List Nat) (e1 : Int) (k : Bool) (B : Option Addr) (m d : Nat) (ys : List Nat) (e2 : Int) (hA : Lim w A n c xs) (hB : Lim w B m d ys) (hT : Tab w) :
    Held2 w w.heap.size g A n c xs e1 (w.heap.size + 1) k B m d ys e2 ((w.alloc (.cells #[.bool g, .slice A n c, .int .i64 e1] 32)).alloc (.cells #[.bool k, .slice B m d, .int .i64 e2] 32)) := by
  have a3 : Below w.heap.size w ((w.alloc (.cells #[.bool g, .slice A n c, .int .i64 e1] 32)).alloc (.cells #[.bool k, .slice B m d, .int .i64 e2] 32)) := ((Below.refl _ _).alloc (Nat.le_refl _) _).alloc (by simp) _
  have b1 := (Bd.new w 32 g A n c e1).alloc (.cells #[.bool k, .slice B m d, .int .i64 e2] 32)
  have b2 := Bd.new (w.alloc (.cells #[.bool g, .slice A n c, .int .i64 e1] 32)) 32 k B m d e2
  rw [World.size_alloc] at b2
  exact ⟨b1, b2, hA.below a3, hB.below a3, hT.below a3, a3⟩
theorem below_drew (w : World) : Below w.heap.size w w.drew := (Below.refl _ _).drew

set_option maxHeartbeats 2000000 in
set_option maxRecDepth 20000 in
theorem dcmp_l (v : Int) (g : Bool) (A : Option Addr) (n c : Nat) (xs : List Nat) (e1 : Int) (k : Bool) (B : Option Addr) (m d : Nat) (ys : List Nat) (e2 : Int) (w : World) (hA : Lim w A n c xs) (hB : Lim w B m d ys) (hn : n ≤ 4294967296) (hm : m ≤ 4294967296) (hT : Tab w) (hv : Hid (cmpI (dw g (val xs) e1) (dw k (val ys) e2) = v)) :
    Calls Tryz.prog 10 #[.agg #[.bool g, .slice A n c, .int .i64 e1], .agg #[.bool k, .slice B m d, .int .i64 e2]] w fun e w' => e = .returned (.int .i64 v) ∧ Below w.heap.size w w' := by
  obtain ⟨s1, hs1⟩ : ∃ s, sgD g (val xs) = s := ⟨_, rfl⟩
  obtain ⟨s2, hs2⟩ : ∃ s, sgD k (val ys) = s := ⟨_, rfl⟩
  have H0 := Lib.hid ((Held2.start w g A n c xs e1 k B m d ys e2 hA hB hT).below (below_drew _))
  have HS1 : Hid (∀ u, Cells2 w w.heap.size g A n c xs e1 (w.heap.size + 1) k B m d ys e2 u → Calls Tryz.prog 17 #[.agg #[.bool g, .slice A n c, .int .i64 e1]] u fun e w' => e = .returned (.int .i64 s1) ∧ Cells2 w w.heap.size g A n c xs e1 (w.heap.size + 1) k B m d ys e2 w') := fun u hu => by
    have h := hu.2.2.2.2.2.2.out
    refine (sign_l s1 g A n c xs e1 u h.2.2.1 (by omega) hs1).mono ?_
    rintro e w' ⟨rfl, hb⟩
    exact ⟨rfl, (h.below hb).cells⟩
  have HS2 : Hid (∀ u, Cells2 w w.heap.size g A n c xs e1 (w.heap.size + 1) k B m d ys e2 u → Calls Tryz.prog 17 #[.agg #[.bool k, .slice B m d, .int .i64 e2]] u fun e w' => e = .returned (.int .i64 s2) ∧ Cells2 w w.heap.size g A n c xs e1 (w.heap.size + 1) k B m d ys e2 w') := fun u hu => by
    have h := hu.2.2.2.2.2.2.out
    refine (sign_l s2 k B m d ys e2 u h.2.2.2.1 (by omega) hs2).mono ?_
    rintro e w' ⟨rfl, hb⟩
    exact ⟨rfl, (h.below hb).cells⟩
  have hcase : (s1 ≠ s2 ∧ Hid (cmpI s1 s2 = v)) ∨ (s1 = s2 ∧ s1 = 0 ∧ v = 0) ∨ (s1 = s2 ∧ (s1 = 1 ∨ s1 = -1) ∧ ∃ z, -1 ≤ z ∧ z ≤ 1 ∧ val xs ≠ 0 ∧ val ys ≠ 0 ∧ Hid (cmpZ (sz (val xs) e1) (sz (val ys) e2) = z) ∧ s1 * z = v) := by
    have k1 := sgD_spec g (val xs) e1
    have k2 := sgD_spec k (val ys) e2
    rw [hs1] at k1
    rw [hs2] at k2
    by_cases h : s1 = s2
    · refine Or.inr ?_
      by_cases h0 : s1 = 0
      · refine Or.inl ⟨h, h0, ?_⟩
        rw [← hv.out, ← cmp_noughts (by rw [hs1, hs2, h]) (by rw [hs1, h0])]
      · refine Or.inr ⟨h, by omega, _, (cmpZ_bd _ _).1, (cmpZ_bd _ _).2, by omega, by omega, rfl, ?_⟩
        have := cmp_sizes (g := g) (k := k) (V := val xs) (U := val ys) (e := e1) (f := e2) (by rw [hs1, hs2, h]) (by rw [hs1]; exact h0)
        rw [hs1] at this
        rw [this, hv.out]
    · refine Or.inl ⟨h, ?_⟩
      have := cmp_signs (g := g) (k := k) (V := val xs) (U := val ys) (e := e1) (f := e2) (by rw [hs1, hs2]; exact h)
      rw [hs1, hs2] at this
      exact this.trans hv.out
  clear hA hB hT hs1 hs2 hv
  go_enter Tryz.func10, Tryz.ntmps10
  go_wp2_with fail
  go_region_held3 (fun w' => w'.cell? ⟨w.heap.size, 0, none⟩ = some (.bool g) ∧ w'.cell? ⟨w.heap.size, 1, none⟩ = some (.slice A n c) ∧ w'.cell? ⟨w.heap.size, 2, none⟩ = some (.int .i64 e1) ∧ w'.cell? ⟨w.heap.size + 1, 0, none⟩ = some (.bool k) ∧ w'.cell? ⟨w.heap.size + 1, 1, none⟩ = some (.slice B m d) ∧ w'.cell? ⟨w.heap.size + 1, 2, none⟩ = some (.int .i64 e2) ∧ Hid (Held2 w w.heap.size g A n c xs e1 (w.heap.size + 1) k B m d ys e2 w'))
    (first | exact H0.out.cells | assumption)
    (first | (go_at_call 17; refine (HS1.out _ (by assumption)).mono ?_; rintro e w1 ⟨rfl, hY⟩) | (go_at_call 17; refine (HS2.out _ (by assumption)).mono ?_; rintro e w2 ⟨rfl, hZ⟩))
  have HZ := hZ.2.2.2.2.2.2
  obtain ⟨x0, x1, x2, y0, y1, y2, _⟩ := hZ
  have HF := Lib.hid HZ.out.2.2.2.2.2
  clear hY HS1 HS2 H0
  rcases hcase with ⟨hne, hv⟩ | ⟨rfl, rfl, rfl⟩ | ⟨rfl, hs, z, hz1, hz2, hx, hy, hz, hv⟩
  · have h1 : decide (s1 = s2) = false := decide_eq_false hne
    go_wp2_with fail
    refine (compare_l s1 s2 v w2 hv).mono ?_
    rintro e w' ⟨rfl, rfl⟩
    go_wp2
    go_ret
    exact ⟨rfl, HF.out⟩
  · go_wp2_with fail
    go_ret
    exact ⟨rfl, HF.out⟩
  · have Hsz := Lib.hid (sizes_l z g A n c xs e1 k B m d ys e2 w2 HZ.out.2.2.1 HZ.out.2.2.2.1 hn hm HZ.out.2.2.2.2.1 hx hy hz)
    clear hz hx hy
    rcases hs with rfl | rfl
    · obtain rfl : z = v := by omega
      go_wp2_with fail
      refine Hsz.out.mono ?_
      rintro e w3 ⟨rfl, hB3⟩
      have Hfin := Lib.hid (HF.out.trans (hB3.mono HF.out.size))
      clear hB3 Hsz HZ HF x0 x1 x2 y0 y1 y2
      go_wp2
      go_ret
      exact ⟨ret_int (by omega), Hfin.out⟩
    · obtain rfl : -z = v := by omega
      go_wp2_with fail
      refine Hsz.out.mono ?_
      rintro e w3 ⟨rfl, hB3⟩
      have Hfin := Lib.hid (HF.out.trans (hB3.mono HF.out.size))
      clear hB3 Hsz HZ HF x0 x1 x2 y0 y1 y2
      go_wp2
      go_ret
      exact ⟨ret_int (by omega), Hfin.out⟩
end Go.Proofs.YtijhdlkfihjbiaaGreatDoor
/- Masks; the walks of float.Neg, Finite, Kind, size; the document's Kind and Size. -/
namespace Go.Proofs.YtijhdlkfihjbiaaGreatDoor
open Go.RowKit

theorem bne_no {x y : Int} (h : x = y) : (x != y) = false := by rw [h]; simp
theorem bne_yes {x y : Int} (h : x ≠ y) : (x != y) = true := by simpa using h
theorem beq_no {x y : Int} (h : x ≠ y) : (x == y) = false := by simpa using h
end Go.Proofs.YtijhdlkfihjbiaaGreatDoor
/- The walks of float.Parts, Whole, Dyad. -/
namespace Go.Proofs.YtijhdlkfihjbiaaGreatDoor
open Go.RowKit

end Go.Proofs.YtijhdlkfihjbiaaGreatDoor
/- The walks of float.laid and Exact. -/
namespace Go.Proofs.YtijhdlkfihjbiaaGreatDoor
open Go.RowKit

theorem mk_is {g : Bool} {V : Nat} {e : Int} {d : Dy} (h : mk g V e = some d) : nO g V e = d := by
  rw [mk_nO] at h
  obtain ⟨h1, h2, h3⟩ := toldD_fine h
  by_cases h0 : V = 0
  · subst h0
    rw [nO_zero] at h ⊢
    exact Option.some.inj h
  · have h4 : (nO g V e).V ≠ 0 := by rw [nO_pos _ _ h0]; exact fun h => h0 (odd_part_zero.1 h)
    obtain ⟨h5, h6⟩ := h3 h4
    obtain ⟨a, b, c⟩ := d
    simp only at h2 h5 h6
    rw [h2, h5, h6]
end Go.Proofs.YtijhdlkfihjbiaaGreatDoor
/- The walks of planimeterref05.Same (of the same) and planimeterlaw06.alive. -/
namespace Go.Proofs.YtijhdlkfihjbiaaGreatDoor
open Go.RowKit


end Go.Proofs.YtijhdlkfihjbiaaGreatDoor
/- The document's numbers: planimeterref05.cut, Of; planimeterref06.Worth. -/
namespace Go.Proofs.YtijhdlkfihjbiaaGreatDoor
open Go.RowKit

theorem cut_l (e0 h : Int) (w : World) (hh : Hid (held e0 = h)) : Calls Tryz.prog 53 #[.int .i64 e0] w fun e w' => e = .returned (.int .i64 h) ∧ w = w' := by
  have hv := hh.out
  unfold held at hv
  clear hh
  by_cases h1 : 2147483648 < e0
  · obtain rfl : h = 2147483648 := by omega
    have b1 : decide ((2147483648 : Int) < e0) = true := decide_eq_true h1
    clear hv h1
    go_enter Tryz.func53, Tryz.ntmps53
    go_wp2
    go_ret
    exact ⟨rfl, rfl⟩
  · have b1 : decide ((2147483648 : Int) < e0) = false := decide_eq_false h1
    by_cases h2 : e0 < -2147483648
    · obtain rfl : h = -2147483648 := by omega
      have b2 : decide (e0 < -2147483648) = true := decide_eq_true h2
      clear hv h1 h2
      go_enter Tryz.func53, Tryz.ntmps53
      go_wp2
      go_ret
      exact ⟨rfl, rfl⟩
    · obtain rfl : h = e0 := by omega
      have b2 : decide (h < -2147483648) = false := decide_eq_false h2
      clear hv h1 h2
      go_enter Tryz.func53, Tryz.ntmps53
      go_wp2
      go_ret
      exact ⟨rfl, rfl⟩

/-- Digits aren't in such a block. -/
theorem Bd.dig {w : World} {b t : Nat} {g : Bool} {A : Option Addr} {n c : Nat} {e : Int} (h : Bd w b t g A n c e) {A1 : Option Addr} {n1 c1 : Nat} {ds : List Nat} (hA : Dig w A1 n1 c1 ds) (g' : Bool) (A' : Option Addr) (n' c' : Nat) (e' : Int) : Dig (World.put w b g' A' n' c' e') A1 n1 c1 ds :=
  ⟨⟨hA.1.1, hA.1.2.1, fun hn => by
    obtain ⟨k, o, ek, hk, hc⟩ := hA.at_ hn
    have hne : k ≠ b := by
      rintro rfl
      have := h.not (hc 0 hn)
      cases this
    exact ⟨k, o, ek, by rw [put_size]; exact hk, fun j hj => by rw [put_cell _ _ _ _ _ _ _ _ hne]; exact hc j hj⟩⟩, hA.2⟩
theorem Dig.drew {w : World} {A : Option Addr} {n c : Nat} {ds : List Nat} (h : Dig w A n c ds) : Dig w.drew A n c ds := h
theorem Dig.alloc {w : World} {A : Option Addr} {n c : Nat} {ds : List Nat} (h : Dig w A n c ds) (o : Obj) : Dig (w.alloc o) A n c ds := h.below ((Below.refl _ _).alloc (Nat.le_refl _) o)
/-- How many digits a number has at most. -/
theorem dig_len {ds : List Nat} {k : Nat} (hb : D.Bare ds) (h : D.val ds < 2 ^ (16 * k)) : ds.length ≤ k := by
  rcases Nat.lt_or_ge k ds.length with hk | hk
  · obtain ⟨j, hj⟩ : ∃ j, ds.length = j + 1 := ⟨ds.length - 1, by omega⟩
    have h1 := D.val_pos_of_tl (xs := ds) (j := j) (by rw [hb, hj])
    rw [D.pw_two] at h1
    have h2 : (2 : Nat) ^ (16 * k) ≤ 2 ^ (16 * j) := Nat.pow_le_pow_right (by decide) (by omega)
    omega
  · exact hk

/-- A number that is told. -/
def NTold (w : World) (d : Dy) (L : Nat) (e : Ending) (w' : World) : Prop :=
  ∃ A m c ds, e = .returned (.agg #[.bool d.neg, .slice A m c, .int .i64 d.e]) ∧ m ≤ L ∧ Dig w' A m c ds ∧ D.Bare ds ∧ D.val ds = d.V ∧ Below w.heap.size w w'

theorem low_bit {V j : Nat} (h : 0 < V) (hj : j ≤ low V) : V / 2 ^ j % 2 = if j = low V then 1 else 0 := by
  obtain ⟨m, hm⟩ := low_spec h
  generalize low V = l at *
  split
  · rename_i e
    subst e
    rw [hm, Nat.mul_div_cancel_left _ (Nat.two_pow_pos _)]
    omega
  · rename_i e
    obtain ⟨d, rfl⟩ : ∃ d, l = j + (d + 1) := ⟨l - j - 1, by omega⟩
    rw [hm, Nat.pow_add, Nat.mul_assoc, Nat.mul_div_cancel_left _ (Nat.two_pow_pos _), Nat.pow_succ, Nat.mul_comm (2 ^ d), Nat.mul_assoc, Nat.mul_mod_right]

set_option maxHeartbeats 1000000 in
theorem rof_any (g : Bool) (A : Option Addr) (n c : Nat) (xs : List Nat) (e0 : Int) (w : World) (hA : Lim w A n c xs) (hn : n ≤ 200) :
    Calls Tryz.prog 18 #[.agg #[.bool g, .slice A n c, .int .i64 e0]] w (NTold w (nO g (val xs) e0) (4 * n)) := by
  have a3 : Below w.heap.size w ((w.alloc (.cells #[.bool g, .slice A n c, .int .i64 e0] 24)).alloc (.cells #[.bool false, .slice none 0 0, .int .i64 0] 28)) := ((Below.refl _ _).alloc (Nat.le_refl _) _).alloc (by simp) _
  have H1 := Lib.hid (to_any A n c xs _ (hA.below a3) (by omega))
  have b1 := (Bd.new w 24 g A n c e0).alloc (.cells #[.bool false, .slice none 0 0, .int .i64 0] 28)
  have b2 := Bd.new (w.alloc (.cells #[.bool g, .slice A n c, .int .i64 e0] 24)) 28 false none 0 0 0
  rw [World.size_alloc] at b2
  have Hb1 := Lib.hid b1
  have Hb2 := Lib.hid b2
  have HS := Lib.hid a3
  have hlt := val_lt hA.words
  rw [hA.len] at hlt
  have Hlt : Hid (val xs < 2 ^ (16 * (4 * n))) := by
    rw [pw_two, show 64 * n = 16 * (4 * n) by omega] at hlt
    exact hlt
  have hbl := hA.blen_le
  generalize val xs = V at *
  clear hA a3 b1 b2 hlt
  go_enter Tryz.func18, Tryz.ntmps18
  go_wp2_with fail
  refine H1.out.mono ?_
  rintro e w1 ⟨A1, m1, c1, ds, rfl, hm1, hl1, hd1, hv1, hB1⟩
  have HL1 := Lib.hid hl1
  have hk1 := Lib.hid (Hb1.out.below hB1)
  have hk2 := Lib.hid (Hb2.out.below hB1)
  have HS1 := Lib.hid (HS.out.trans (hB1.mono HS.out.size))
  have hm9 : m1 ≤ 800 := by omega
  by_cases h0 : V = 0
  · obtain rfl : ds = [] := by
      have h5 : D.tl ds = 0 := D.tl_zero_iff.2 (hv1.trans h0)
      rw [hd1] at h5
      exact List.eq_nil_of_length_eq_zero h5
    obtain rfl : m1 = 0 := hl1.len.symm
    have Hfin : Hid (NTold w (nO g V e0) (4 * n) (.returned (.agg #[.bool false, .slice none 0 0, .int .i64 0])) (World.put w1 (w.heap.size + 1) false none 0 0 0)) := by
      rw [h0, nO_zero]
      exact ⟨none, 0, 0, [], rfl, Nat.zero_le _, Dig.nil _ _ _, rfl, rfl, below_put HS1.out (Nat.le_succ _) _ _ _ _ _⟩
    have y0 := hk2.out.c0
    have y1 := hk2.out.c1
    have y2 := hk2.out.c2
    have yf := hk2.out.fz
    clear hk1 hk2 hB1 hl1 hd1 hv1 H1 Hb1 Hb2 HS HL1 h0 HS1
    go_wp2
    exact bodyPost_ret (v := .agg #[.bool false, .slice none 0 0, .int .i64 0]) (by simp [results, Tryz.results18, go_sem, y0, y1, y2]) rfl Hfin.out
  · have hm0 : 0 < m1 := by
      rcases Nat.eq_zero_or_pos m1 with h | h
      · exfalso
        apply h0
        rw [← hv1]
        have h5 := hl1.len
        rw [h] at h5
        rw [List.eq_nil_of_length_eq_zero h5]; rfl
      · exact h
    obtain ⟨l, hl⟩ : ∃ l, low V = l := ⟨_, rfl⟩
    have hl9 : l ≤ 64 * n := by rw [← hl]; exact Nat.le_trans (low_le_blen V) hbl
    have Hbit : Hid (∀ j, j ≤ l → V / 2 ^ j % 2 = if j = l then 1 else 0) := fun j hj => by
      rw [← hl]; exact low_bit (Nat.pos_of_ne_zero h0) (by omega)
    have Hv1 := Lib.hid hv1
    have Hd1 := Lib.hid hd1
    have c0 : ((m1 : Int) == 0) = false := beq_no (by omega)
    have HN : Hid (nO g V e0 = ⟨g, V / 2 ^ l, held e0 + l⟩) := by rw [← hl]; exact nO_pos g e0 h0
    clear hB1 hl1 hd1 hv1 H1 Hb1 Hb2 HS h0 hl hbl
    go_wp2
    go_loop [4] (fun i => ∃ j : Nat, j ≤ l ∧ i = .int .i64 j) (fun i => l - (intOf i).toNat)
    case atStart => exact ⟨0, Nat.zero_le _, rfl⟩
    case round =>
      obtain ⟨j, hj, rfl⟩ := hrel
      by_cases hjl : j = l
      · subst hjl
        have Hb : Hid (D.val ds / 2 ^ j % 2 = 1) := by rw [Hv1.out]; have := Hbit.out j (Nat.le_refl _); rw [if_pos rfl] at this; exact this
        have H5 := rshr_pos A1 m1 c1 ds j (by omega) w1 HL1.out Hd1.out (by omega)
        rw [Hv1.out] at H5
        generalize decide (V % 2 ^ j ≠ 0) = R at H5
        have H5 := Lib.hid H5
        obtain ⟨h, hh⟩ : ∃ h, held e0 = h := ⟨_, rfl⟩
        have hhb := held_bd e0
        rw [hh] at hhb
        have Hh := Lib.hid hh
        have Hlt2 : Hid (V / 2 ^ j < 2 ^ (16 * (4 * n))) := Nat.lt_of_le_of_lt (Nat.div_le_self _ _) Hlt.out
        rw [hh] at HN
        have hw : IntKind.i64.wrap (h + (j : Int)) = h + (j : Int) := by rw [IntKind.wrap_i64]; omega
        clear hh Hlt Hbit
        go_wp2_with fail
        refine (rbit_any 1 A1 m1 c1 ds j w1 HL1.out (by omega) (by omega) Hb).mono ?_
        rintro e w' ⟨rfl, rfl⟩
        go_wp2_with fail
        refine H5.out.mono ?_
        rintro e w2 ⟨A2, m2, c2, es, rfl, _, hl2, hd2, hv2, hB2⟩
        have k1 := hk1.out.below hB2
        have k2 := hk2.out.below hB2
        have hm2 : m2 ≤ 4 * n := by
          rw [← hl2.len]
          exact dig_len hd2 (by rw [hv2]; exact Hlt2.out)
        have Hfin : Hid (NTold w (nO g V e0) (4 * n) (.returned (.agg #[.bool g, .slice A2 m2 c2, .int .i64 (h + j)])) (World.put w2 (w.heap.size + 1) g A2 m2 c2 (h + j)).drew) := by
          rw [HN.out]
          exact ⟨A2, m2, c2, es, rfl, hm2, (k2.dig hl2 _ _ _ _ _).drew, hd2, hv2, (below_put (HS1.out.trans (hB2.mono HS1.out.size)) (Nat.le_succ _) _ _ _ _ _).drew⟩
        have q1 := k1.other (b' := w.heap.size + 1) (by omega) g A2 m2 c2 (h + j)
        have K0 := Lib.hid (And.intro k1.drew.c0 k1.drew.c2)
        have K1 := Lib.hid (And.intro q1.drew.c0 q1.drew.c2)
        have y0 := k2.c0
        have y1 := k2.c1
        have y2 := k2.c2
        have yf := k2.fz
        clear k1 k2 q1 hB2 hl2 hd2 hv2 H5 hk1 hk2 HS1 HN Hlt2 Hb HL1 Hv1 Hd1
        go_wp2_with fail
        go_region_held3 (fun w' => w'.cell? ⟨w.heap.size, 0, none⟩ = some (.bool g) ∧ w'.cell? ⟨w.heap.size, 2, none⟩ = some (.int .i64 e0)) (first | (with_reducible exact K0.out) | (with_reducible exact K1.out)) (first | (go_at_call 53; (with_reducible refine (cut_l e0 h _ Hh).mono ?_); rintro e w' ⟨rfl, rfl⟩))
        all_goals (
          go_wp2_with fail
          exact bodyPost_ret (v := .agg #[.bool g, .slice A2 m2 c2, .int .i64 (h + j)]) (by simp [results, Tryz.results18, go_sem, y0, y1, y2]) rfl Hfin.out)
      · have Hb : Hid (D.val ds / 2 ^ j % 2 = 0) := by rw [Hv1.out]; have := Hbit.out j hj; rw [if_neg hjl] at this; exact this
        clear Hbit HN hk1 hk2 HS1 Hlt
        go_wp2_with fail
        refine (rbit_any 0 A1 m1 c1 ds j w1 HL1.out (by omega) (by omega) Hb).mono ?_
        rintro e w' ⟨rfl, rfl⟩
        go_wp2
        go_round
        case rel => exact ⟨j + 1, by omega, by go_num⟩
        case measure => simp [intOf]; omega
end Go.Proofs.YtijhdlkfihjbiaaGreatDoor
/- The document's numbers: planimeterref06.Worth and Same, planimeterref05.Fits. -/
namespace Go.Proofs.YtijhdlkfihjbiaaGreatDoor
open Go.RowKit


theorem fits_yes (g : Bool) (A : Option Addr) (n c : Nat) (e0 : Int) (w : World) (h1 : -1073741824 ≤ e0) (h2 : e0 ≤ 1073741824) :
    Calls Tryz.prog 54 #[.agg #[.bool g, .slice A n c, .int .i64 e0]] w fun e w' => e = .returned (.bool true) ∧ Below w.heap.size w w' := by
  have H1 := Lib.hid (below1 w (.cells #[.bool g, .slice A n c, .int .i64 e0] 28))
  have b1 : decide (-1073741824 ≤ e0) = true := decide_eq_true h1
  have b2 : decide (e0 ≤ 1073741824) = true := decide_eq_true h2
  clear h1 h2
  go_enter Tryz.func54, Tryz.ntmps54
  go_wp2
  go_ret
  exact ⟨rfl, H1.out⟩


end Go.Proofs.YtijhdlkfihjbiaaGreatDoor
/- The walk of planimeterref05.To, of a number that is odd, or 0. -/
namespace Go.Proofs.YtijhdlkfihjbiaaGreatDoor
open Go.RowKit

/-- While it is walked: what came in, in its box, and the result's block. -/
def HoldT (w : World) (g : Bool) (A : Option Addr) (m c : Nat) (ds : List Nat) (E : Int) (u : World) : Prop :=
  Bd u w.heap.size 28 g A m c E ∧ Bd u (w.heap.size + 1) 24 false none 0 0 0 ∧ Dig u A m c ds ∧ Below w.heap.size w u
abbrev CellsT (w : World) (g : Bool) (A : Option Addr) (m c : Nat) (E : Int) (w' : World) : Prop :=
  w'.cell? ⟨w.heap.size, 0, none⟩ = some (.bool g) ∧ w'.cell? ⟨w.heap.size, 1, none⟩ = some (.slice A m c) ∧ w'.cell? ⟨w.heap.size, 2, none⟩ = some (.int .i64 E)
section
variable {w : World} {g : Bool} {A : Option Addr} {m c : Nat} {ds : List Nat} {E : Int} {u u' : World}
theorem HoldT.below (h : HoldT w g A m c ds E u) (hb : Below u.heap.size u u') : HoldT w g A m c ds E u' :=
  ⟨h.1.below hb, h.2.1.below hb, h.2.2.1.below hb, h.2.2.2.trans (hb.mono h.2.2.2.size)⟩
theorem HoldT.cells (h : HoldT w g A m c ds E u) : CellsT w g A m c E u := ⟨h.1.c0, h.1.c1, h.1.c2⟩
theorem HoldT.put (h : HoldT w g A m c ds E u) {p : Nat} (hp : w.heap.size + 1 < p) {t : Nat} {g0 : Bool} {A0 : Option Addr} {n0 c0 : Nat} {e0 : Int} (hB : Bd u p t g0 A0 n0 c0 e0) (g' : Bool) (A' : Option Addr) (n' c' : Nat) (e' : Int) : HoldT w g A m c ds E (World.put u p g' A' n' c' e') :=
  ⟨h.1.other (by omega) _ _ _ _ _, h.2.1.other (by omega) _ _ _ _ _, hB.dig h.2.2.1 _ _ _ _ _, below_put h.2.2.2 (by omega) _ _ _ _ _⟩
end
/-- Behind the first region: the same number in a block p. -/
def RelT (w : World) (g : Bool) (V : Nat) (E : Int) (p : Nat) (A5 : Option Addr) (m5 c5 : Nat) (es : List Nat) (u : World) : Prop :=
  Bd u p 28 g A5 m5 c5 E ∧ Bd u (w.heap.size + 1) 24 false none 0 0 0 ∧ Dig u A5 m5 c5 es ∧ D.Bare es ∧ D.val es = V ∧ m5 ≤ 200 ∧ w.heap.size + 1 < p ∧ Below w.heap.size w u
theorem RelT.below {w : World} {g : Bool} {V : Nat} {E : Int} {p : Nat} {A5 : Option Addr} {m5 c5 : Nat} {es : List Nat} {u u' : World} (h : RelT w g V E p A5 m5 c5 es u) (hb : Below u.heap.size u u') : RelT w g V E p A5 m5 c5 es u' := by
  obtain ⟨h1, h2, h3, h4, h5, h6, h7, h8⟩ := h
  exact ⟨h1.below hb, h2.below hb, h3.below hb, h4, h5, h6, h7, h8.trans (hb.mono h8.size)⟩
theorem RelT.of {w : World} {g : Bool} {V : Nat} {E : Int} {A : Option Addr} {m c : Nat} {ds : List Nat} {u : World} (h : HoldT w g A m c ds E u) {p : Nat} (hp : w.heap.size + 1 < p) {g0 : Bool} {A0 : Option Addr} {n0 c0 : Nat} {e0 : Int} (hB : Bd u p 28 g0 A0 n0 c0 e0) {A5 : Option Addr} {m5 c5 : Nat} {es : List Nat} (hl : Dig u A5 m5 c5 es) (hd : D.Bare es) (hv : D.val es = V) (hm : m5 ≤ 200) : RelT w g V E p A5 m5 c5 es (World.put u p g A5 m5 c5 E) :=
  ⟨hB.put _ _ _ _ _, h.2.1.other (by omega) _ _ _ _ _, hB.dig hl _ _ _ _ _, hd, hv, hm, hp, below_put h.2.2.2 (by omega) _ _ _ _ _⟩

end Go.Proofs.YtijhdlkfihjbiaaGreatDoor
/- The walk of dyad.both. -/
namespace Go.Proofs.YtijhdlkfihjbiaaGreatDoor
open Go.RowKit

/-- Two dyads and an error. -/
def Told2 (w : World) (o1 o2 : Option Dy) (L1 L2 : Nat) (e : Ending) (w' : World) : Prop :=
  match o1, o2 with
  | some a, some b => ∃ A m c zs B p q us, e = .returned (.tuple #[.agg #[.bool a.neg, .slice A m c, .int .i64 a.e], .agg #[.bool b.neg, .slice B p q, .int .i64 b.e], .int .i64 0]) ∧ m ≤ L1 ∧ p ≤ L2 ∧ Lim w' A m c zs ∧ Lim w' B p q us ∧ Bare zs ∧ Bare us ∧ val zs = a.V ∧ val us = b.V ∧ Below w.heap.size w w'
  | _, _ => e = .returned (.tuple #[.agg #[.bool false, .slice none 0 0, .int .i64 0], .agg #[.bool false, .slice none 0 0, .int .i64 0], .int .i64 2]) ∧ Below w.heap.size w w'

set_option maxHeartbeats 4000000 in
theorem both_any (g : Bool) (A : Option Addr) (n c : Nat) (xs : List Nat) (e1 : Int) (k : Bool) (B : Option Addr) (m d : Nat) (ys : List Nat) (e2 : Int) (w : World) (hA : Lim w A n c xs) (hB : Lim w B m d ys) (hn : n ≤ 4294967296) (hm : m ≤ 4294967296) (hT : Tab w) :
    Calls Tryz.prog 82 #[.agg #[.bool g, .slice A n c, .int .i64 e1], .agg #[.bool k, .slice B m d, .int .i64 e2]] w (Told2 w (mk g (val xs) e1) (mk k (val ys) e2) n m) := by
  obtain ⟨W4, hW4⟩ : ∃ W4, (((w.alloc (.cells #[.bool g, .slice A n c, .int .i64 e1] 32)).alloc (.cells #[.bool k, .slice B m d, .int .i64 e2] 32)).alloc (.cells #[.bool false, .slice none 0 0, .int .i64 0] 32)).alloc (.cells #[.bool false, .slice none 0 0, .int .i64 0] 32) = W4 := ⟨_, rfl⟩
  have h0 := Held2.start w g A n c xs e1 k B m d ys e2 hA hB hT
  have b3 := (Bd.new ((w.alloc (.cells #[.bool g, .slice A n c, .int .i64 e1] 32)).alloc (.cells #[.bool k, .slice B m d, .int .i64 e2] 32)) 32 false none 0 0 0).alloc (.cells #[.bool false, .slice none 0 0, .int .i64 0] 32)
  have b4 := Bd.new (((w.alloc (.cells #[.bool g, .slice A n c, .int .i64 e1] 32)).alloc (.cells #[.bool k, .slice B m d, .int .i64 e2] 32)).alloc (.cells #[.bool false, .slice none 0 0, .int .i64 0] 32)) 32 false none 0 0 0
  rw [World.size_alloc, World.size_alloc] at b3
  rw [World.size_alloc, World.size_alloc, World.size_alloc] at b4
  have h4 : Held2 w w.heap.size g A n c xs e1 (w.heap.size + 1) k B m d ys e2 W4 := by rw [← hW4]; exact (h0.below (below1 _ _)).below (below1 _ _)
  rw [hW4] at b3 b4
  have H4 := Lib.hid h4
  have Hb3 : Hid (Bd W4 (w.heap.size + 1 + 1) 32 false none 0 0 0) := b3
  have Hb4 : Hid (Bd W4 (w.heap.size + 1 + 1 + 1) 32 false none 0 0 0) := b4
  have HC1 := Lib.hid (dbare_any g A n c xs e1 W4 h4.2.2.1 hn h4.2.2.2.2.1)
  have HW := Lib.hid hW4
  clear hA hB hT h0 h4 b3 b4 hW4
  go_enter Tryz.func82, Tryz.ntmps82
  go_wp2_with fail
  rw [HW.out]
  refine HC1.out.mono ?_
  rintro e w1 ⟨g1, A1, m1, c1, zs, E1, r1, rfl, hm1, hl1, hb1, his1, hB1⟩
  have H5 := Lib.hid (H4.out.below hB1)
  have Hb5 := Lib.hid (Hb3.out.below hB1)
  have Hb6 := Lib.hid (Hb4.out.below hB1)
  clear HC1 H4 Hb3 Hb4 HW hB1
  cases ho1 : mk g (val xs) e1 with
  | none =>
    rw [ho1] at his1
    obtain ⟨rfl, rfl, hz, rfl⟩ := his1
    have x0 := fun o => (Hb5.out.alloc o).c0
    have x1 := fun o => (Hb5.out.alloc o).c1
    have x2 := fun o => (Hb5.out.alloc o).c2
    have xf := fun o => (Hb5.out.alloc o).fz
    have y0 := fun o => (Hb6.out.alloc o).c0
    have y1 := fun o => (Hb6.out.alloc o).c1
    have y2 := fun o => (Hb6.out.alloc o).c2
    have yf := fun o => (Hb6.out.alloc o).fz
    have Hfin : Hid (Told2 w (mk g (val xs) e1) (mk k (val ys) e2) n m (.returned (.tuple #[.agg #[.bool false, .slice none 0 0, .int .i64 0], .agg #[.bool false, .slice none 0 0, .int .i64 0], .int .i64 2])) (World.put (World.put (w1.alloc (.cells #[.bool false, .slice A1 m1 c1, .int .i64 0] 32)) (w.heap.size + 1 + 1) false none 0 0 0) (w.heap.size + 1 + 1 + 1) false none 0 0 0)) := by
      rw [ho1]
      refine ⟨rfl, below_put (below_put (H5.out.2.2.2.2.2.alloc H5.out.2.2.2.2.2.size _) (by omega) _ _ _ _ _) (by omega) _ _ _ _ _⟩
    clear hl1 hb1 H5 Hb5 Hb6 hz ho1
    go_wp2
    exact bodyPost_ret (v := .tuple #[.agg #[.bool false, .slice none 0 0, .int .i64 0], .agg #[.bool false, .slice none 0 0, .int .i64 0], .int .i64 2]) (by simp [results, Tryz.results82, go_sem, x0, x1, x2, y0, y1, y2]) rfl Hfin.out
  | some a =>
    rw [ho1] at his1
    obtain ⟨rfl, rfl, hz1, rfl⟩ := his1
    have hs2 := Hb5.out.lt
    have hs3 := Hb6.out.lt
    have Hb7 := Lib.hid (Bd.new w1 32 a.neg A1 m1 c1 a.e)
    have HL1 := Lib.hid (hl1.alloc (.cells #[.bool a.neg, .slice A1 m1 c1, .int .i64 a.e] 32))
    have Hz1 : Hid (Bare zs ∧ val zs = a.V) := ⟨hb1, hz1⟩
    replace H5 := Lib.hid (H5.out.below (below1 _ (.cells #[.bool a.neg, .slice A1 m1 c1, .int .i64 a.e] 32)))
    replace Hb5 := Lib.hid (Hb5.out.alloc (.cells #[.bool a.neg, .slice A1 m1 c1, .int .i64 a.e] 32))
    replace Hb6 := Lib.hid (Hb6.out.alloc (.cells #[.bool a.neg, .slice A1 m1 c1, .int .i64 a.e] 32))
    have x0 := H5.out.2.1.c0
    have x1 := H5.out.2.1.c1
    have x2 := H5.out.2.1.c2
    have Ho1 := Lib.hid ho1
    clear hl1 hb1 hz1 ho1
    go_wp2_with fail
    refine (dbare_any k B m d ys e2 _ H5.out.2.2.2.1 hm H5.out.2.2.2.2.1).mono ?_
    rintro e w2 ⟨g2, A2, m2, c2, us, E2, r2, rfl, hm2, hl2, hb2, his2, hB2⟩
    replace H5 := Lib.hid (H5.out.below hB2)
    replace Hb5 := Lib.hid (Hb5.out.below hB2)
    replace Hb6 := Lib.hid (Hb6.out.below hB2)
    replace Hb7 := Lib.hid (Hb7.out.below hB2)
    replace HL1 := Lib.hid (HL1.out.below hB2)
    clear hB2 x0 x1 x2
    have x0 := fun o => (Hb5.out.alloc o).c0
    have x1 := fun o => (Hb5.out.alloc o).c1
    have x2 := fun o => (Hb5.out.alloc o).c2
    have xf := fun o => (Hb5.out.alloc o).fz
    have y0 := fun o => (Hb6.out.alloc o).c0
    have y1 := fun o => (Hb6.out.alloc o).c1
    have y2 := fun o => (Hb6.out.alloc o).c2
    have yf := fun o => (Hb6.out.alloc o).fz
    cases ho2 : mk k (val ys) e2 with
    | none =>
      rw [ho2] at his2
      obtain ⟨rfl, rfl, hz2, rfl⟩ := his2
      have Hfin : Hid (Told2 w (mk g (val xs) e1) (mk k (val ys) e2) n m (.returned (.tuple #[.agg #[.bool false, .slice none 0 0, .int .i64 0], .agg #[.bool false, .slice none 0 0, .int .i64 0], .int .i64 2])) (World.put (World.put (w2.alloc (.cells #[.bool false, .slice A2 m2 c2, .int .i64 0] 32)) (w.heap.size + 1 + 1) false none 0 0 0) (w.heap.size + 1 + 1 + 1) false none 0 0 0)) := by
        rw [Ho1.out, ho2]
        refine ⟨rfl, below_put (below_put (H5.out.2.2.2.2.2.alloc H5.out.2.2.2.2.2.size _) (by omega) _ _ _ _ _) (by omega) _ _ _ _ _⟩
      clear hl2 hb2 H5 Hb5 Hb6 hz2 ho2 Hb7 HL1 Hz1
      go_wp2
      exact bodyPost_ret (v := .tuple #[.agg #[.bool false, .slice none 0 0, .int .i64 0], .agg #[.bool false, .slice none 0 0, .int .i64 0], .int .i64 2]) (by simp [results, Tryz.results82, go_sem, x0, x1, x2, y0, y1, y2]) rfl Hfin.out
    | some b =>
      rw [ho2] at his2
      obtain ⟨rfl, rfl, hz2, rfl⟩ := his2
      have k7 := Hb7.out.alloc (.cells #[.bool b.neg, .slice A2 m2 c2, .int .i64 b.e] 32)
      have k8 := Bd.new w2 32 b.neg A2 m2 c2 b.e
      have k5 := Hb5.out.alloc (.cells #[.bool b.neg, .slice A2 m2 c2, .int .i64 b.e] 32)
      have k6 := Hb6.out.alloc (.cells #[.bool b.neg, .slice A2 m2 c2, .int .i64 b.e] 32)
      have hlt := Hb7.out.lt
      have f7 := k7.other (b' := w.heap.size + 1 + 1) (by omega) a.neg A1 m1 c1 a.e
      have f8 := k8.other (b' := w.heap.size + 1 + 1) (by omega) a.neg A1 m1 c1 a.e
      have f6 := k6.other (b' := w.heap.size + 1 + 1) (by omega) a.neg A1 m1 c1 a.e
      have g7 := f7.other (b' := w.heap.size + 1 + 1 + 1) (by omega) b.neg A2 m2 c2 b.e
      have g8 := f8.other (b' := w.heap.size + 1 + 1 + 1) (by omega) b.neg A2 m2 c2 b.e
      have Hfin : Hid (Told2 w (mk g (val xs) e1) (mk k (val ys) e2) n m (.returned (.tuple #[.agg #[.bool a.neg, .slice A1 m1 c1, .int .i64 a.e], .agg #[.bool b.neg, .slice A2 m2 c2, .int .i64 b.e], .int .i64 0])) (World.put (World.put (w2.alloc (.cells #[.bool b.neg, .slice A2 m2 c2, .int .i64 b.e] 32)) (w.heap.size + 1 + 1) a.neg A1 m1 c1 a.e) (w.heap.size + 1 + 1 + 1) b.neg A2 m2 c2 b.e).drew) := by
        rw [Ho1.out, ho2]
        exact ⟨A1, m1, c1, zs, A2, m2, c2, us, rfl, hm1, hm2, (f6.lim (k5.lim (HL1.out.alloc _) _ _ _ _ _) _ _ _ _ _).drew, (f6.lim (k5.lim (hl2.alloc _) _ _ _ _ _) _ _ _ _ _).drew, Hz1.out.1, hb2, Hz1.out.2, hz2, (below_put (below_put (H5.out.2.2.2.2.2.alloc H5.out.2.2.2.2.2.size _) (by omega) _ _ _ _ _) (by omega) _ _ _ _ _).drew⟩
      have K0 := Lib.hid (k7.drew.six k8.drew)
      have K1 := Lib.hid (f7.drew.six f8.drew)
      have K2 := Lib.hid (g7.drew.six g8.drew)
      clear hl2 hb2 H5 Hb5 Hb6 hz2 ho2 Hb7 HL1 Hz1 Ho1 k5 k6 k7 k8 f6 f7 f8 g7 g8
      go_wp2_with fail
      go_region_held3 (fun w' => w'.cell? ⟨w1.heap.size, 0, none⟩ = some (.bool a.neg) ∧ w'.cell? ⟨w1.heap.size, 1, none⟩ = some (.slice A1 m1 c1) ∧ w'.cell? ⟨w1.heap.size, 2, none⟩ = some (.int .i64 a.e) ∧ w'.cell? ⟨w2.heap.size, 0, none⟩ = some (.bool b.neg) ∧ w'.cell? ⟨w2.heap.size, 1, none⟩ = some (.slice A2 m2 c2) ∧ w'.cell? ⟨w2.heap.size, 2, none⟩ = some (.int .i64 b.e))
        (first | with_reducible exact K0.out | with_reducible exact K1.out | with_reducible exact K2.out) (fail)
      go_wp2_with fail
      (exact bodyPost_ret (v := .tuple #[.agg #[.bool a.neg, .slice A1 m1 c1, .int .i64 a.e], .agg #[.bool b.neg, .slice A2 m2 c2, .int .i64 b.e], .int .i64 0]) (by simp [results, Tryz.results82, go_sem, x0, x1, x2, y0, y1, y2]) rfl Hfin.out)
end Go.Proofs.YtijhdlkfihjbiaaGreatDoor
/- The walks of dyad.down and apart. -/
namespace Go.Proofs.YtijhdlkfihjbiaaGreatDoor
open Go.RowKit

/-- A dyad alone. -/
def Tells1 (w : World) (g : Bool) (V L : Nat) (E : Int) (e : Ending) (w' : World) : Prop :=
  ∃ A m c zs, e = .returned (.agg #[.bool g, .slice A m c, .int .i64 E]) ∧ m ≤ L ∧ Lim w' A m c zs ∧ Bare zs ∧ val zs = V ∧ Below w.heap.size w w'

set_option maxHeartbeats 2000000 in
theorem down_any (g : Bool) (A : Option Addr) (n c : Nat) (xs : List Nat) (e1 lo : Int) (q : Nat) (w : World) (hA : Lim w A n c xs) (hn : n ≤ 1000000) (hq : e1 - lo = (q : Int)) (hfit : blen (val xs) + q ≤ 65536) :
    Calls Tryz.prog 83 #[.agg #[.bool g, .slice A n c, .int .i64 e1], .int .i64 lo] w (Tells1 w g (val xs * 2 ^ q) (q + n + 1) lo) := by
  have a3 : Below w.heap.size w ((w.alloc (.cells #[.bool g, .slice A n c, .int .i64 e1] 32)).alloc (.cells #[.bool false, .slice none 0 0, .int .i64 0] 32)) := ((Below.refl _ _).alloc (Nat.le_refl _) _).alloc (by simp) _
  have H1 := Lib.hid (shl_all A n c xs _ (hA.below a3) (by omega) q (Or.inl hfit))
  have b1 := (Bd.new w 32 g A n c e1).alloc (.cells #[.bool false, .slice none 0 0, .int .i64 0] 32)
  have b2 := Bd.new (w.alloc (.cells #[.bool g, .slice A n c, .int .i64 e1] 32)) 32 false none 0 0 0
  rw [World.size_alloc] at b2
  have Hb1 := Lib.hid b1
  have Hb2 := Lib.hid b2
  have HS := Lib.hid a3
  have hq9 : q ≤ 65536 := by omega
  clear hA a3 b1 b2 hfit
  go_enter Tryz.func83, Tryz.ntmps83
  go_wp2_with fail
  refine H1.out.mono ?_
  rintro e w1 ⟨A1, m1, c1, zs, rfl, hm1, hl1, hb1, hv1, hB1⟩
  have k1 := Hb1.out.below hB1
  have k2 := Hb2.out.below hB1
  have Hfin : Hid (Tells1 w g (val xs * 2 ^ q) (q + n + 1) lo (.returned (.agg #[.bool g, .slice A1 m1 c1, .int .i64 lo])) (World.put w1 (w.heap.size + 1) g A1 m1 c1 lo)) :=
    ⟨A1, m1, c1, zs, rfl, hm1, k2.lim hl1 _ _ _ _ _, hb1, hv1, below_put (HS.out.trans (hB1.mono HS.out.size)) (Nat.le_succ _) _ _ _ _ _⟩
  have x0 := k1.c0
  have y0 := k2.c0
  have y1 := k2.c1
  have y2 := k2.c2
  have yf := k2.fz
  clear k1 k2 hB1 hl1 hb1 hv1 H1 Hb1 Hb2 HS
  go_wp2
  exact bodyPost_ret (v := .agg #[.bool g, .slice A1 m1 c1, .int .i64 lo]) (by simp [results, Tryz.results83, go_sem, y0, y1, y2]) rfl Hfin.out

theorem cmp_neg {x y : Nat} : (x < y ∧ cmpZ x y = -1) ∨ (y ≤ x ∧ 0 ≤ cmpZ x y) := by
  rcases Nat.lt_or_ge x y with h | h
  · exact Or.inl ⟨h, cmpZ_lt h⟩
  · exact Or.inr ⟨h, cmpZ_nonneg h⟩

set_option maxHeartbeats 4000000 in
theorem apart_any (g : Bool) (A : Option Addr) (n c : Nat) (xs : List Nat) (k : Bool) (B : Option Addr) (m d : Nat) (ys : List Nat) (lo : Int) (w : World) (hA : Lim w A n c xs) (hB : Lim w B m d ys) (hn : n ≤ 1000000) (hm : m ≤ 1000000) (hT : Tab w) (o : Option Dy) (ho : Hid ((if val xs < val ys then mk k (val ys - val xs) lo else mk g (val xs - val ys) lo) = o)) :
    Calls Tryz.prog 84 #[.agg #[.bool g, .slice A n c, .int .i64 lo], .agg #[.bool k, .slice B m d, .int .i64 lo]] w
      (Told w o (max n m)) := by
  have h0 := Held2.start w g A n c xs lo k B m d ys lo hA hB hT
  have h4 := h0.below (below1 _ (.cells #[.bool false, .slice none 0 0, .int .i64 0] 32))
  have b3 := Bd.new ((w.alloc (.cells #[.bool g, .slice A n c, .int .i64 lo] 32)).alloc (.cells #[.bool k, .slice B m d, .int .i64 lo] 32)) 32 false none 0 0 0
  rw [World.size_alloc, World.size_alloc] at b3
  obtain ⟨f, hf⟩ : ∃ f, cmpZ (val xs) (val ys) = f := ⟨_, rfl⟩
  have hcase := cmp_neg (x := val xs) (y := val ys)
  rw [hf] at hcase
  have HC := Lib.hid (cmp_b f A n c xs B m d ys _ h4.2.2.1 h4.2.2.2.1 (by omega) (by omega) hf)
  have H4 := Lib.hid h4
  have Hb3 := Lib.hid b3
  clear hA hB hT h0 h4 b3 hf
  rcases hcase with ⟨hlt, rfl⟩ | ⟨hge, hf0⟩
  · have Hif : Hid (mk k (val ys - val xs) lo = o) := by rw [← ho.out, if_pos hlt]; rfl
    clear ho
    go_enter Tryz.func84, Tryz.ntmps84
    go_wp2_with fail
    refine HC.out.mono ?_
    rintro e w1 ⟨rfl, hB1⟩
    obtain ⟨k1, k2, l1, l2, t1, s1⟩ := H4.out.below hB1
    have k3 := Hb3.out.below hB1
    have x0 := k1.c0
    have x1 := k1.c1
    have x2 := k1.c2
    have xf := k1.fz
    have y0 := k2.c0
    have y1 := k2.c1
    have y2 := k2.c2
    have yf := k2.fz
    have p1 := k1.put k B m d lo
    have p2 := k2.other (b' := w.heap.size) (by omega) k B m d lo
    have p3 := k3.other (b' := w.heap.size) (by omega) k B m d lo
    have q1 := p1.other (b' := w.heap.size + 1) (by omega) g A n c lo
    have q2 := p2.put g A n c lo
    have q3 := p3.other (b' := w.heap.size + 1) (by omega) g A n c lo
    have m1 := p2.lim (k1.lim l1 k B m d lo) g A n c lo
    have m2 := p2.lim (k1.lim l2 k B m d lo) g A n c lo
    have t2 := p2.tab (k1.tab t1 k B m d lo) g A n c lo
    have s2 := below_put (below_put s1 (b := w.heap.size) (Nat.le_refl _) k B m d lo) (b := w.heap.size + 1) (Nat.le_succ _) g A n c lo
    have HQ := Lib.hid (And.intro q1 (And.intro q3 (And.intro t2 s2)))
    have HD := Lib.hid (sub_any B m d ys A n c xs _ m2 m1 (by omega) (by omega) (Nat.le_of_lt hlt))
    clear k1 k2 k3 l1 l2 t1 s1 p1 p2 p3 q1 q2 q3 m1 m2 t2 s2 hB1 HC H4 Hb3 hlt
    go_wp2_with fail
    refine HD.out.mono ?_
    rintro e w2 ⟨A2, n2, c2, us, rfl, hm2, hl2, hb2, hv2, hB2⟩
    have k1 := HQ.out.1.below hB2
    have k3 := HQ.out.2.1.below hB2
    have HE := Lib.hid (make_any k A2 n2 c2 us lo w2 hl2 (by omega) (HQ.out.2.2.1.below hB2))
    rw [hv2, Hif.out] at HE
    have Hk3 := Lib.hid k3
    have HS2 := Lib.hid (HQ.out.2.2.2.trans (hB2.mono HQ.out.2.2.2.size))
    clear x0 x1 x2 xf y0 y1 y2 yf HQ HD hl2 hb2 hv2 hB2 k3
    have x0 := k1.c0
    have x2 := k1.c2
    clear k1
    go_wp2_with fail
    refine HE.out.mono ?_
    rintro e w3 ⟨g3, A3, m3, c3, zs, E, r, rfl, hm3, hl3, hb3, his, hB3⟩
    have k3 := Hk3.out.below hB3
    have Hfin : Hid (Told w o (max n m) (.returned (.tuple #[.agg #[.bool g3, .slice A3 m3 c3, .int .i64 E], .int .i64 r])) (World.put w3 (w.heap.size + 1 + 1) g3 A3 m3 c3 E)) :=
      ⟨g3, A3, m3, c3, zs, E, r, rfl, by omega, k3.lim hl3 _ _ _ _ _, hb3, his, below_put (HS2.out.trans (hB3.mono HS2.out.size)) (by omega) _ _ _ _ _⟩
    clear x0 x2
    have y0 := k3.c0
    have y1 := k3.c1
    have y2 := k3.c2
    have yf := k3.fz
    clear k3 Hk3 HS2 HE hl3 hb3 his hB3 Hif
    go_wp2
    exact bodyPost_ret (v := .tuple #[.agg #[.bool g3, .slice A3 m3 c3, .int .i64 E], .int .i64 r]) (by simp [results, Tryz.results84, go_sem, y0, y1, y2]) rfl Hfin.out
  · have Hif : Hid (mk g (val xs - val ys) lo = o) := by rw [← ho.out, if_neg (by omega)]; rfl
    have hf1 : decide (f < 0) = false := decide_eq_false (by omega)
    clear ho
    go_enter Tryz.func84, Tryz.ntmps84
    go_wp2_with fail
    refine HC.out.mono ?_
    rintro e w1 ⟨rfl, hB1⟩
    obtain ⟨k1, k2, l1, l2, t1, s1⟩ := H4.out.below hB1
    have k3 := Hb3.out.below hB1
    have x0 := k1.c0
    have x1 := k1.c1
    have x2 := k1.c2
    have y0 := k2.c0
    have y1 := k2.c1
    have y2 := k2.c2
    have HQ := Lib.hid (And.intro k1 (And.intro k3 (And.intro t1 s1)))
    have HD := Lib.hid (sub_any A n c xs B m d ys _ l1 l2 (by omega) (by omega) hge)
    clear k1 k2 k3 l1 l2 t1 s1 hB1 HC H4 Hb3 hge
    go_wp2_with fail
    refine HD.out.mono ?_
    rintro e w2 ⟨A2, n2, c2, us, rfl, hm2, hl2, hb2, hv2, hB2⟩
    have k1 := HQ.out.1.below hB2
    have k3 := HQ.out.2.1.below hB2
    have HE := Lib.hid (make_any g A2 n2 c2 us lo w2 hl2 (by omega) (HQ.out.2.2.1.below hB2))
    rw [hv2, Hif.out] at HE
    have Hk3 := Lib.hid k3
    have HS2 := Lib.hid (HQ.out.2.2.2.trans (hB2.mono HQ.out.2.2.2.size))
    clear x0 x1 x2 y0 y1 y2 HQ HD hl2 hb2 hv2 hB2 k3
    have x0 := k1.c0
    have x2 := k1.c2
    clear k1
    go_wp2_with fail
    refine HE.out.mono ?_
    rintro e w3 ⟨g3, A3, m3, c3, zs, E, r, rfl, hm3, hl3, hb3, his, hB3⟩
    have k3 := Hk3.out.below hB3
    have Hfin : Hid (Told w o (max n m) (.returned (.tuple #[.agg #[.bool g3, .slice A3 m3 c3, .int .i64 E], .int .i64 r])) (World.put w3 (w.heap.size + 1 + 1) g3 A3 m3 c3 E)) :=
      ⟨g3, A3, m3, c3, zs, E, r, rfl, by omega, k3.lim hl3 _ _ _ _ _, hb3, his, below_put (HS2.out.trans (hB3.mono HS2.out.size)) (by omega) _ _ _ _ _⟩
    clear x0 x2
    have y0 := k3.c0
    have y1 := k3.c1
    have y2 := k3.c2
    have yf := k3.fz
    clear k3 Hk3 HS2 HE hl3 hb3 his hB3 Hif
    go_wp2
    exact bodyPost_ret (v := .tuple #[.agg #[.bool g3, .slice A3 m3 c3, .int .i64 E], .int .i64 r]) (by simp [results, Tryz.results84, go_sem, y0, y1, y2]) rfl Hfin.out
end Go.Proofs.YtijhdlkfihjbiaaGreatDoor
/- The walk of dyad.Add. -/
namespace Go.Proofs.YtijhdlkfihjbiaaGreatDoor
open Go.RowKit

/-- While a sum is made: both dyads in their blocks, the result's block. -/
def Held3 (w0 : World) (b1 : Nat) (g : Bool) (A : Option Addr) (n c : Nat) (xs : List Nat) (e1 : Int) (b2 : Nat) (k : Bool) (B : Option Addr) (m d : Nat) (ys : List Nat) (e2 : Int) (b3 : Nat) (w : World) : Prop :=
  Held2 w0 b1 g A n c xs e1 b2 k B m d ys e2 w ∧ Bd w b3 32 false none 0 0 0
theorem Held3.below {w0 : World} {b1 : Nat} {g : Bool} {A : Option Addr} {n c : Nat} {xs : List Nat} {e1 : Int} {b2 : Nat} {k : Bool} {B : Option Addr} {m d : Nat} {ys : List Nat} {e2 : Int} {b3 : Nat} {w w' : World}
    (h : Held3 w0 b1 g A n c xs e1 b2 k B m d ys e2 b3 w) (hb : Below w.heap.size w w') : Held3 w0 b1 g A n c xs e1 b2 k B m d ys e2 b3 w' := ⟨h.1.below hb, h.2.below hb⟩
/-- Both blocks turned. -/
theorem Held3.turn {w0 : World} {b1 : Nat} {g : Bool} {A : Option Addr} {n c : Nat} {xs : List Nat} {e1 : Int} {b2 : Nat} {k : Bool} {B : Option Addr} {m d : Nat} {ys : List Nat} {e2 : Int} {b3 : Nat} {w : World}
    (h : Held3 w0 b1 g A n c xs e1 b2 k B m d ys e2 b3 w) (h1 : w0.heap.size ≤ b1) (h12 : b1 < b2) (h23 : b2 < b3)
    {g' : Bool} {A' : Option Addr} {n' c' : Nat} {xs' : List Nat} {e1' : Int} {k' : Bool} {B' : Option Addr} {m' d' : Nat} {ys' : List Nat} {e2' : Int} (hA : Lim w A' n' c' xs') (hB : Lim w B' m' d' ys') :
    Held3 w0 b1 g' A' n' c' xs' e1' b2 k' B' m' d' ys' e2' b3 (World.put (World.put w b1 g' A' n' c' e1') b2 k' B' m' d' e2') := by
  obtain ⟨⟨k1, k2, l1, l2, t1, s1⟩, k3⟩ := h
  have p2 := k2.other (b' := b1) (by omega) g' A' n' c' e1'
  exact ⟨⟨(k1.put g' A' n' c' e1').other (by omega) _ _ _ _ _, p2.put _ _ _ _ _, p2.lim (k1.lim hA _ _ _ _ _) _ _ _ _ _, p2.lim (k1.lim hB _ _ _ _ _) _ _ _ _ _, p2.tab (k1.tab t1 _ _ _ _ _) _ _ _ _ _, below_put (below_put s1 h1 _ _ _ _ _) (by omega) _ _ _ _ _⟩, (k3.other (by omega) _ _ _ _ _).other (by omega) _ _ _ _ _⟩
theorem Held3.start (w : World) (g : Bool) (A : Option Addr) (n c : Nat) (xs : List Nat) (e1 : Int) (k : Bool) (B : Option Addr) (m d : Nat) (ys : List Nat) (e2 : Int) (hA : Lim w A n c xs) (hB : Lim w B m d ys) (hT : Tab w) :
    Held3 w w.heap.size g A n c xs e1 (w.heap.size + 1) k B m d ys e2 (w.heap.size + 1 + 1) (((w.alloc (.cells #[.bool g, .slice A n c, .int .i64 e1] 32)).alloc (.cells #[.bool k, .slice B m d, .int .i64 e2] 32)).alloc (.cells #[.bool false, .slice none 0 0, .int .i64 0] 32)) := by
  have b3 := Bd.new ((w.alloc (.cells #[.bool g, .slice A n c, .int .i64 e1] 32)).alloc (.cells #[.bool k, .slice B m d, .int .i64 e2] 32)) 32 false none 0 0 0
  rw [World.size_alloc, World.size_alloc] at b3
  exact ⟨(Held2.start w g A n c xs e1 k B m d ys e2 hA hB hT).below (below1 _ _), b3⟩

/-- The sum of two that aren't 0 and lie near. -/
theorem addB_near {a b : Dy} {lo : Int} {x y : Nat} (h1 : a.V ≠ 0) (h2 : b.V ≠ 0) (hlo : min a.e b.e = lo) (hx : a.V * 2 ^ (a.e - lo).toNat = x) (hy : b.V * 2 ^ (b.e - lo).toNat = y) (h : max ((blen a.V : Int) - 1 + a.e) ((blen b.V : Int) - 1 + b.e) - lo ≤ 65535) :
    addB a b = if a.neg = b.neg then mk a.neg (x + y) lo else if x < y then mk b.neg (y - x) lo else mk a.neg (x - y) lo := by
  unfold addB
  rw [if_neg h1, if_neg h2, hlo, if_neg (by omega), hx, hy]
theorem addB_far {a b : Dy} {lo : Int} (h1 : a.V ≠ 0) (h2 : b.V ≠ 0) (hlo : min a.e b.e = lo) (h : 65535 < max ((blen a.V : Int) - 1 + a.e) ((blen b.V : Int) - 1 + b.e) - lo) : addB a b = none := by
  unfold addB
  rw [if_neg h1, if_neg h2, hlo, if_pos h]

theorem Told2.part {w : World} {o1 o2 : Option Dy} {L1 L2 : Nat} {e : Ending} {w' : World} (h : Told2 w o1 o2 L1 L2 e w') :
    (∃ a b, o1 = some a ∧ o2 = some b) ∨ ((o1 = none ∨ o2 = none) ∧ e = .returned (.tuple #[.agg #[.bool false, .slice none 0 0, .int .i64 0], .agg #[.bool false, .slice none 0 0, .int .i64 0], .int .i64 2]) ∧ Below w.heap.size w w') := by
  cases o1 with
  | none => exact Or.inr ⟨Or.inl rfl, by cases o2 <;> exact h⟩
  | some a => cases o2 with
    | none => exact Or.inr ⟨Or.inr rfl, h⟩
    | some b => exact Or.inl ⟨a, b, rfl, rfl⟩
theorem addO_none {o1 o2 : Option Dy} (h : o1 = none ∨ o2 = none) : addO o1 o2 = none := by
  rcases h with rfl | rfl
  · cases o2 <;> rfl
  · cases o1 <;> rfl
theorem is_zero : Is none false (val []) 0 2 := ⟨rfl, rfl, rfl, rfl⟩

set_option maxHeartbeats 4000000 in
theorem dadd_any (o : Option Dy) (g : Bool) (A : Option Addr) (n c : Nat) (xs : List Nat) (e1 : Int) (k : Bool) (B : Option Addr) (m d : Nat) (ys : List Nat) (e2 : Int) (w : World) (hA : Lim w A n c xs) (hB : Lim w B m d ys) (hn : n ≤ 400000) (hm : m ≤ 400000) (hT : Tab w) (ho : Hid (addO (mk g (val xs) e1) (mk k (val ys) e2) = o)) :
    Calls Tryz.prog 46 #[.agg #[.bool g, .slice A n c, .int .i64 e1], .agg #[.bool k, .slice B m d, .int .i64 e2]] w (Told w o (max n m + 65540)) := by
  have h4 := Held3.start w g A n c xs e1 k B m d ys e2 hA hB hT
  have HC := Lib.hid (both_any g A n c xs e1 k B m d ys e2 _ h4.1.2.2.1 h4.1.2.2.2.1 (by omega) (by omega) h4.1.2.2.2.2.1)
  have H4 := Lib.hid h4
  clear hA hB hT h4
  go_enter Tryz.func46, Tryz.ntmps46
  go_wp2_with fail
  refine HC.out.mono ?_
  clear HC
  intro e w1 hT2
  rcases hT2.part with ⟨a, b, h1, h2⟩ | ⟨hno, he, hB1⟩
  case inr =>
    obtain rfl : o = none := by rw [← ho.out]; exact addO_none hno
    clear hT2 hno ho
    subst he
    have HQ := Lib.hid ((H4.out.below hB1).turn (e1' := 0) (e2' := 0) (g' := false) (k' := false) (Nat.le_refl _) (by omega) (by omega) (Lim.nil _ none 0) (Lim.nil _ none 0))
    obtain ⟨⟨k1, k2, _, _, _, _⟩, k3⟩ := H4.out.below hB1
    have x0 := k1.c0
    have x1 := k1.c1
    have x2 := k1.c2
    have xf := k1.fz
    have y0 := k2.c0
    have y1 := k2.c1
    have y2 := k2.c2
    have yf := k2.fz
    have z0 := k3.c0
    have z1 := k3.c1
    have z2 := k3.c2
    have zf := k3.fz
    have Hfin : Hid (Told w none (max n m + 65540) (.returned (.tuple #[.agg #[.bool false, .slice none 0 0, .int .i64 0], .int .i64 2])) (World.put (World.put (World.put w1 w.heap.size false none 0 0 0) (w.heap.size + 1) false none 0 0 0) (w.heap.size + 1 + 1) false none 0 0 0)) :=
      ⟨false, none, 0, 0, [], 0, 2, rfl, Nat.zero_le _, Lim.nil _ _ _, rfl, is_zero, below_put HQ.out.1.2.2.2.2.2 (by omega) _ _ _ _ _⟩
    clear k1 k2 k3 H4 hB1 HQ
    go_wp2
    exact bodyPost_ret (v := .tuple #[.agg #[.bool false, .slice none 0 0, .int .i64 0], .int .i64 2]) (by simp [results, Tryz.results46, go_sem, z0, z1, z2]) rfl Hfin.out
  case inl =>
    rw [h1, h2] at hT2 ho
    obtain ⟨A1, m1, c1, zs, B1, p1, q1, us, rfl, hm1, hp1, hl1, hl2, hb1, hb2, hv1, hv2, hB1⟩ := hT2
    have f1 := (mk_fine h1).1
    have f2 := (mk_fine h2).1
    have HQ := Lib.hid ((H4.out.below hB1).turn (e1' := a.e) (e2' := b.e) (g' := a.neg) (k' := b.neg) (Nat.le_refl _) (by omega) (by omega) hl1 hl2)
    have HF : Hid (Fine a ∧ Fine b) := ⟨f1, f2⟩
    have HV : Hid ((Bare zs ∧ val zs = a.V) ∧ Bare us ∧ val us = b.V) := ⟨⟨hb1, hv1⟩, hb2, hv2⟩
    obtain ⟨⟨k1, k2, _, _, _, _⟩, k3⟩ := H4.out.below hB1
    have x0 := k1.c0
    have x1 := k1.c1
    have x2 := k1.c2
    have xf := k1.fz
    have y0 := k2.c0
    have y1 := k2.c1
    have y2 := k2.c2
    have yf := k2.fz
    have z0 := k3.c0
    have z1 := k3.c1
    have z2 := k3.c2
    have zf := k3.fz
    obtain ⟨s1, hs1⟩ : ∃ s, sgD a.neg a.V = s := ⟨_, rfl⟩
    obtain ⟨s2, hs2⟩ : ∃ s, sgD b.neg b.V = s := ⟨_, rfl⟩
    have HS1 := Lib.hid (sign_l s1 a.neg A1 m1 c1 zs a.e _ HQ.out.1.2.2.1 (by omega) (by rw [hv1]; exact hs1))
    clear k1 k2 k3 hl1 hl2 hb1 hb2 hv1 hv2 hB1 H4 h1 h2 f1 f2
    by_cases ha0 : a.V = 0
    · obtain rfl : o = some b := by rw [← ho.out]; show addB a b = some b; rw [addB, if_pos ha0]
      obtain rfl : s1 = 0 := by rw [← hs1, ha0]; rfl
      go_wp2_with fail
      refine HS1.out.mono ?_
      rintro e w2 ⟨rfl, hB2⟩
      replace HQ := Lib.hid (HQ.out.below hB2)
      clear x0 x1 x2 xf y0 y1 y2 yf z0 z1 z2 zf hB2 HS1 hs1 ho
      obtain ⟨⟨k1, k2, l1, l2, t1, s1⟩, k3⟩ := HQ.out
      have Hfin : Hid (Told w (some b) (max n m + 65540) (.returned (.tuple #[.agg #[.bool b.neg, .slice B1 p1 q1, .int .i64 b.e], .int .i64 0])) (World.put w2 (w.heap.size + 1 + 1) b.neg B1 p1 q1 b.e)) :=
        ⟨b.neg, B1, p1, q1, us, b.e, 0, rfl, by omega, k3.lim l2 _ _ _ _ _, HV.out.2.1, ⟨rfl, rfl, HV.out.2.2, rfl⟩, below_put s1 (by omega) _ _ _ _ _⟩
      have y0 := k2.c0
      have y1 := k2.c1
      have y2 := k2.c2
      have z0 := k3.c0
      have z1 := k3.c1
      have z2 := k3.c2
      have zf := k3.fz
      clear k1 k2 k3 l1 l2 t1 s1 HQ HV HF hs2
      go_wp2
      exact bodyPost_ret (v := .tuple #[.agg #[.bool b.neg, .slice B1 p1 q1, .int .i64 b.e], .int .i64 0]) (by simp [results, Tryz.results46, go_sem, z0, z1, z2]) rfl Hfin.out
    · have hs10 : s1 ≠ 0 := by rw [← hs1, sgD, if_neg ha0]; cases a.neg <;> decide
      have hs11 : decide (s1 = 0) = false := decide_eq_false hs10
      go_wp2_with fail
      refine HS1.out.mono ?_
      rintro e w2 ⟨rfl, hB2⟩
      replace HQ := Lib.hid (HQ.out.below hB2)
      have HS2 := Lib.hid (sign_l s2 b.neg B1 p1 q1 us b.e _ HQ.out.1.2.2.2.1 (by omega) (by rw [HV.out.2.2]; exact hs2))
      clear x0 x1 x2 xf y0 y1 y2 yf z0 z1 z2 zf hB2 HS1 hs1
      obtain ⟨⟨k1, k2, _, _, _, _⟩, k3⟩ := HQ.out
      have y0 := k2.c0
      have y1 := k2.c1
      have y2 := k2.c2
      clear k1 k2 k3
      by_cases hb0 : b.V = 0
      · obtain rfl : o = some a := by rw [← ho.out]; show addB a b = some a; rw [addB, if_neg ha0, if_pos hb0]
        obtain rfl : s2 = 0 := by rw [← hs2, hb0]; rfl
        go_wp2_with fail
        refine HS2.out.mono ?_
        rintro e w3 ⟨rfl, hB2⟩
        replace HQ := Lib.hid (HQ.out.below hB2)
        clear y0 y1 y2 hB2 HS2 hs2 ho
        obtain ⟨⟨k1, k2, l1, l2, t1, s2⟩, k3⟩ := HQ.out
        have Hfin : Hid (Told w (some a) (max n m + 65540) (.returned (.tuple #[.agg #[.bool a.neg, .slice A1 m1 c1, .int .i64 a.e], .int .i64 0])) (World.put w3 (w.heap.size + 1 + 1) a.neg A1 m1 c1 a.e)) :=
          ⟨a.neg, A1, m1, c1, zs, a.e, 0, rfl, by omega, k3.lim l1 _ _ _ _ _, HV.out.1.1, ⟨rfl, rfl, HV.out.1.2, rfl⟩, below_put s2 (by omega) _ _ _ _ _⟩
        have y0 := k1.c0
        have y1 := k1.c1
        have y2 := k1.c2
        have z0 := k3.c0
        have z1 := k3.c1
        have z2 := k3.c2
        have zf := k3.fz
        clear k1 k2 k3 l1 l2 t1 s2 HQ HV HF
        go_wp2
        exact bodyPost_ret (v := .tuple #[.agg #[.bool a.neg, .slice A1 m1 c1, .int .i64 a.e], .int .i64 0]) (by simp [results, Tryz.results46, go_sem, z0, z1, z2]) rfl Hfin.out
      · have hs20 : s2 ≠ 0 := by rw [← hs2, sgD, if_neg hb0]; cases b.neg <;> decide
        have hs21 : decide (s2 = 0) = false := decide_eq_false hs20
        go_wp2_with fail
        refine HS2.out.mono ?_
        rintro e w3 ⟨rfl, hB2⟩
        replace HQ := Lib.hid (HQ.out.below hB2)
        obtain ⟨lo, hlo⟩ : ∃ lo, min a.e b.e = lo := ⟨_, rfl⟩
        obtain ⟨t1, ht1⟩ : ∃ t, (blen a.V : Int) - 1 + a.e = t := ⟨_, rfl⟩
        obtain ⟨t2, ht2⟩ : ∃ t, (blen b.V : Int) - 1 + b.e = t := ⟨_, rfl⟩
        obtain ⟨tm, htm⟩ : ∃ t, max t1 t2 = t := ⟨_, rfl⟩
        have HT1 := Lib.hid (top_l t1 a.neg A1 m1 c1 zs a.e _ HQ.out.1.2.2.1 (by omega) (by rw [HV.out.1.2]; exact ha0) (by rw [topD, HV.out.1.2, HF.out.1.held]; exact ht1))
        clear y0 y1 y2 hB2 HS2 hs2
        obtain ⟨⟨k1, k2, l1, l2, _, _⟩, k3⟩ := HQ.out
        have x0 := k1.c0
        have x1 := k1.c1
        have x2 := k1.c2
        have y2 := k2.c2
        have bl1 := l1.blen_le
        have bl2 := l2.blen_le
        rw [HV.out.1.2] at bl1
        rw [HV.out.2.2] at bl2
        have bp1 := blen_pos ha0
        have bp2 := blen_pos hb0
        have fe1 := HF.out.1.1
        have fe2 := HF.out.1.2.1
        have fe3 := HF.out.2.1
        have fe4 := HF.out.2.2.1
        clear k1 k2 k3 l1 l2
        go_wp2_with fail
        refine HT1.out.mono ?_
        rintro e w4 ⟨rfl, hB2⟩
        replace HQ := Lib.hid (HQ.out.below hB2)
        have HT2 := Lib.hid (top_l t2 b.neg B1 p1 q1 us b.e _ HQ.out.1.2.2.2.1 (by omega) (by rw [HV.out.2.2]; exact hb0) (by rw [topD, HV.out.2.2, HF.out.2.held]; exact ht2))
        clear x0 x1 x2 y2 hB2 HT1
        obtain ⟨⟨k1, k2, l1, l2, _, _⟩, k3⟩ := HQ.out
        have y0 := k2.c0
        have y1 := k2.c1
        have y2 := k2.c2
        clear k1 k2 k3 l1 l2
        go_wp2_with fail
        refine HT2.out.mono ?_
        rintro e w5 ⟨rfl, hB2⟩
        replace HQ := Lib.hid (HQ.out.below hB2)
        clear y0 y1 y2 hB2 HT2
        have htb : tm - lo ≤ 2147483648 + 64 * 400000 ∧ -2147483648 ≤ tm - lo := by omega
        by_cases hfar : 65535 < tm - lo
        · obtain rfl : o = none := by rw [← ho.out]; exact addB_far ha0 hb0 hlo (by rw [ht1, ht2, htm]; exact hfar)
          have hfar' : decide (65535 < tm - lo) = true := decide_eq_true hfar
          obtain ⟨⟨k1, k2, l1, l2, t1', s1'⟩, k3⟩ := HQ.out
          have Hfin : Hid (Told w none (max n m + 65540) (.returned (.tuple #[.agg #[.bool false, .slice none 0 0, .int .i64 0], .int .i64 2])) (World.put w5 (w.heap.size + 1 + 1) false none 0 0 0)) :=
            ⟨false, none, 0, 0, [], 0, 2, rfl, Nat.zero_le _, Lim.nil _ _ _, rfl, is_zero, below_put s1' (by omega) _ _ _ _ _⟩
          have z0 := k3.c0
          have z1 := k3.c1
          have z2 := k3.c2
          have zf := k3.fz
          clear k1 k2 k3 l1 l2 t1' s1' HQ HV HF ho
          go_wp2
          exact bodyPost_ret (v := .tuple #[.agg #[.bool false, .slice none 0 0, .int .i64 0], .int .i64 2]) (by simp [results, Tryz.results46, go_sem, z0, z1, z2]) rfl Hfin.out
        · have hfar' : decide (65535 < tm - lo) = false := decide_eq_false hfar
          obtain ⟨d1, hd1⟩ : ∃ d1 : Nat, a.e - lo = (d1 : Int) := ⟨(a.e - lo).toNat, by omega⟩
          obtain ⟨d2, hd2⟩ : ∃ d2 : Nat, b.e - lo = (d2 : Int) := ⟨(b.e - lo).toNat, by omega⟩
          have hd1' : d1 ≤ 65535 := by omega
          have hd2' : d2 ≤ 65535 := by omega
          obtain ⟨x, hx⟩ : ∃ x, a.V * 2 ^ d1 = x := ⟨_, rfl⟩
          obtain ⟨y, hy⟩ : ∃ y, b.V * 2 ^ d2 = y := ⟨_, rfl⟩
          have Hsum : Hid ((if a.neg = b.neg then mk a.neg (x + y) lo else if x < y then mk b.neg (y - x) lo else mk a.neg (x - y) lo) = o) := by
            rw [← ho.out]
            exact (addB_near ha0 hb0 hlo (by rw [← hx, hd1]; rfl) (by rw [← hy, hd2]; rfl) (by rw [ht1, ht2, htm]; omega)).symm
          have HD1 : Hid (∀ u, Held3 w w.heap.size a.neg A1 m1 c1 zs a.e (w.heap.size + 1) b.neg B1 p1 q1 us b.e (w.heap.size + 1 + 1) u → Calls Tryz.prog 83 #[.agg #[.bool a.neg, .slice A1 m1 c1, .int .i64 a.e], .int .i64 lo] u (Tells1 u a.neg x (d1 + m1 + 1) lo)) := fun u hu => by
            have := down_any a.neg A1 m1 c1 zs a.e lo d1 u hu.1.2.2.1 (by omega) hd1 (by rw [HV.out.1.2]; omega)
            rw [HV.out.1.2, hx] at this
            exact this
          have HD2 : Hid (∀ u, Held3 w w.heap.size a.neg A1 m1 c1 zs a.e (w.heap.size + 1) b.neg B1 p1 q1 us b.e (w.heap.size + 1 + 1) u → Calls Tryz.prog 83 #[.agg #[.bool b.neg, .slice B1 p1 q1, .int .i64 b.e], .int .i64 lo] u (Tells1 u b.neg y (d2 + p1 + 1) lo)) := fun u hu => by
            have := down_any b.neg B1 p1 q1 us b.e lo d2 u hu.1.2.2.2.1 (by omega) hd2 (by rw [HV.out.2.2]; omega)
            rw [HV.out.2.2, hy] at this
            exact this
          have HQd := Lib.hid (HQ.out.below (below_drew _))
          obtain ⟨⟨k1, k2, _, _, _, _⟩, _⟩ := HQ.out
          have x0 := k1.c0
          have x1 := k1.c1
          have x2 := k1.c2
          have y0 := k2.c0
          have y1 := k2.c1
          have y2 := k2.c2
          clear k1 k2 HQ HV HF ho hx hy ht1 ht2
          go_wp2_with fail
          go_region_with (first | (go_at_call 83; (with_reducible refine (HD1.out _ HQd.out).mono ?_); rintro e w6 ⟨A6, m6, c6, vs, rfl, hm6, hl6, hb6, hv6, hB6⟩; have HQ6 := Lib.hid (HQd.out.below hB6); have y60 := HQ6.out.1.2.1.c0; have y61 := HQ6.out.1.2.1.c1; have y62 := HQ6.out.1.2.1.c2) | (go_at_call 83; (with_reducible refine (HD2.out _ HQ6.out).mono ?_); rintro e w7 ⟨A7, m7, c7, ws, rfl, hm7, hl7, hb7, hv7, hB7⟩; have HQ7 := Lib.hid (HQ6.out.below hB7); have x70 := HQ7.out.1.1.c0; have x71 := HQ7.out.1.1.c1; have x72 := HQ7.out.1.1.c2; have x7f := HQ7.out.1.1.fz; have y70 := HQ7.out.1.2.1.c0; have y71 := HQ7.out.1.2.1.c1; have y72 := HQ7.out.1.2.1.c2; have y7f := HQ7.out.1.2.1.fz))
          all_goals (
            have HT7 := Lib.hid (HQ7.out.turn (e1' := lo) (e2' := lo) (g' := a.neg) (k' := b.neg) (Nat.le_refl _) (by omega) (by omega) (hl6.below hB7) hl7)
            have HV7 : Hid (val vs = x ∧ val ws = y) := ⟨hv6, hv7⟩
            clear hl6 hb6 hv6 hB6 HQ6 y60 y61 y62 hl7 hb7 hv7 hB7 HQ7 HQd HD1 HD2 x0 x1 x2 y0 y1 y2
            generalize a.neg = ga at HT7 Hsum x70 ⊢
            generalize b.neg = gb at HT7 Hsum y70 ⊢
            by_cases hsg : ga = gb
            · have Hmk : Hid (mk ga (x + y) lo = o) := by rw [← Hsum.out, if_pos hsg]; rfl
              subst hsg
              have HTd := Lib.hid (HT7.out.below (below_drew _))
              have HA8 := Lib.hid (add_any A6 m6 c6 vs A7 m7 c7 ws _ HTd.out.1.2.2.1 HTd.out.1.2.2.2.1 (by omega) (by omega))
              rw [HV7.out.1, HV7.out.2] at HA8
              have K0 := Lib.hid (And.intro HTd.out.1.1.c0 (And.intro HTd.out.1.1.c1 HTd.out.1.2.1.c1))
              go_wp2_with fail
              go_region_held3 (fun w' => w'.cell? ⟨w.heap.size, 0, none⟩ = some (.bool ga) ∧ w'.cell? ⟨w.heap.size, 1, none⟩ = some (.slice A6 m6 c6) ∧ w'.cell? ⟨w.heap.size + 1, 1, none⟩ = some (.slice A7 m7 c7)) (first | (with_reducible exact K0.out) | (with_reducible exact K8.out) | (with_reducible exact K9.out) | (with_reducible exact K10.out)) (first | (go_at_call 73; (with_reducible refine HA8.out.mono ?_); rintro e w8 ⟨A8, m8, c8, ts, rfl, hm8, hl8, hb8, hv8, hB8⟩; have HQ8 := Lib.hid (HTd.out.below hB8); have K8 := Lib.hid (And.intro HQ8.out.1.1.c0 (And.intro HQ8.out.1.1.c1 HQ8.out.1.2.1.c1)); have HM8 := Lib.hid (make_any ga A8 m8 c8 ts lo w8 hl8 (by omega) HQ8.out.1.2.2.2.2.1); rw [hv8, Hmk.out] at HM8; clear hl8 hb8 hv8 hB8) | (go_at_call 48; (with_reducible refine HM8.out.mono ?_); rintro e w9 ⟨g9, A9, m9, c9, rs, E9, r9, rfl, hm9, hl9, hb9, his9, hB9⟩; have HQ9 := Lib.hid (HQ8.out.below hB9); have K9 := Lib.hid (And.intro HQ9.out.1.1.c0 (And.intro HQ9.out.1.1.c1 HQ9.out.1.2.1.c1)); have K10 := Lib.hid (And.intro (HQ9.out.1.1.other (b' := w.heap.size + 1 + 1) (by omega) g9 A9 m9 c9 E9).c0 (And.intro (HQ9.out.1.1.other (b' := w.heap.size + 1 + 1) (by omega) g9 A9 m9 c9 E9).c1 (HQ9.out.1.2.1.other (b' := w.heap.size + 1 + 1) (by omega) g9 A9 m9 c9 E9).c1)); have z0 := HQ9.out.2.c0; have z1 := HQ9.out.2.c1; have z2 := HQ9.out.2.c2; have zf := HQ9.out.2.fz))
              all_goals (
                have Hfin : Hid (Told w o (max n m + 65540) (.returned (.tuple #[.agg #[.bool g9, .slice A9 m9 c9, .int .i64 E9], .int .i64 r9])) (World.put w9 (w.heap.size + 1 + 1) g9 A9 m9 c9 E9)) :=
                  ⟨g9, A9, m9, c9, rs, E9, r9, rfl, by omega, HQ9.out.2.lim hl9 _ _ _ _ _, hb9, his9, below_put HQ9.out.1.2.2.2.2.2 (by omega) _ _ _ _ _⟩
                clear K0 K8 K9 K10 HA8 HM8 HQ8 HQ9 HTd HT7 hl9 hb9 his9 hB9
                go_wp2_with fail
                exact bodyPost_ret (v := .tuple #[.agg #[.bool g9, .slice A9 m9 c9, .int .i64 E9], .int .i64 r9]) (by simp [results, Tryz.results46, go_sem, z0, z1, z2]) rfl Hfin.out)
            · have Hap : Hid ((if val vs < val ws then mk gb (val ws - val vs) lo else mk ga (val vs - val ws) lo) = o) := by rw [HV7.out.1, HV7.out.2, ← Hsum.out, if_neg hsg]; rfl
              have hsg1 : (ga == gb) = false := by cases ga <;> cases gb <;> simp_all
              have HP := Lib.hid (apart_any ga A6 m6 c6 vs gb A7 m7 c7 ws lo _ HT7.out.1.2.2.1 HT7.out.1.2.2.2.1 (by omega) (by omega) HT7.out.1.2.2.2.2.1 o Hap)
              clear Hap Hsum
              go_wp2_with fail
              refine HP.out.mono ?_
              rintro e w9 ⟨g9, A9, m9, c9, rs, E9, r9, rfl, hm9, hl9, hb9, his9, hB9⟩
              have HQ9 := Lib.hid (HT7.out.below hB9)
              have z0 := HQ9.out.2.c0
              have z1 := HQ9.out.2.c1
              have z2 := HQ9.out.2.c2
              have zf := HQ9.out.2.fz
              have Hfin : Hid (Told w o (max n m + 65540) (.returned (.tuple #[.agg #[.bool g9, .slice A9 m9 c9, .int .i64 E9], .int .i64 r9])) (World.put w9 (w.heap.size + 1 + 1) g9 A9 m9 c9 E9)) :=
                ⟨g9, A9, m9, c9, rs, E9, r9, rfl, by omega, HQ9.out.2.lim hl9 _ _ _ _ _, hb9, his9, below_put HQ9.out.1.2.2.2.2.2 (by omega) _ _ _ _ _⟩
              clear HP HQ9 HT7 hl9 hb9 his9 hB9 x70 x71 x72 x7f y70 y71 y72 y7f
              go_wp2
              exact bodyPost_ret (v := .tuple #[.agg #[.bool g9, .slice A9 m9 c9, .int .i64 E9], .int .i64 r9]) (by simp [results, Tryz.results46, go_sem, z0, z1, z2]) rfl Hfin.out)
end Go.Proofs.YtijhdlkfihjbiaaGreatDoor
/- The walks of dyad.Mul and of dyad.Minus (where the dyad can be bare). -/
namespace Go.Proofs.YtijhdlkfihjbiaaGreatDoor
open Go.RowKit


set_option maxHeartbeats 4000000 in
theorem minus_any (b : Dy) (g : Bool) (A : Option Addr) (n c : Nat) (xs : List Nat) (e1 : Int) (w : World) (hA : Lim w A n c xs) (hn : n ≤ 1000000) (hT : Tab w) (ho : Hid (mk (!g) (val xs) e1 = some b)) :
    Calls Tryz.prog 47 #[.agg #[.bool g, .slice A n c, .int .i64 e1]] w (Tells1 w b.neg b.V n b.e) := by
  have a3 : Below w.heap.size w ((w.alloc (.cells #[.bool g, .slice A n c, .int .i64 e1] 32)).alloc (.cells #[.bool false, .slice none 0 0, .int .i64 0] 32)) := ((Below.refl _ _).alloc (Nat.le_refl _) _).alloc (by simp) _
  have H1 := Lib.hid (make_any (!g) A n c xs e1 _ (hA.below a3) (by omega) (hT.below a3))
  have b2 := Bd.new (w.alloc (.cells #[.bool g, .slice A n c, .int .i64 e1] 32)) 32 false none 0 0 0
  rw [World.size_alloc] at b2
  have Hb2 := Lib.hid b2
  have HS := Lib.hid a3
  rw [ho.out] at H1
  clear hA a3 b2 hT ho
  go_enter Tryz.func47, Tryz.ntmps47
  go_wp2_with fail
  refine H1.out.mono ?_
  rintro e w1 ⟨g1, A1, m1, c1, zs, E1, r1, rfl, hm1, hl1, hb1, ⟨rfl, rfl, hz, rfl⟩, hB1⟩
  have k2 := Hb2.out.below hB1
  have Hfin : Hid (Tells1 w b.neg b.V n b.e (.returned (.agg #[.bool b.neg, .slice A1 m1 c1, .int .i64 b.e])) (World.put (w1.alloc (.cells #[.bool b.neg, .slice A1 m1 c1, .int .i64 b.e] 32)) (w.heap.size + 1) b.neg A1 m1 c1 b.e)) :=
    ⟨A1, m1, c1, zs, rfl, hm1, (k2.alloc _).lim (hl1.alloc _) _ _ _ _ _, hb1, hz, below_put ((HS.out.trans (hB1.mono HS.out.size)).alloc (HS.out.trans (hB1.mono HS.out.size)).size _) (Nat.le_succ _) _ _ _ _ _⟩
  have y0 := fun o => (k2.alloc o).c0
  have y1 := fun o => (k2.alloc o).c1
  have y2 := fun o => (k2.alloc o).c2
  have yf := fun o => (k2.alloc o).fz
  clear k2 hB1 hl1 hb1 H1 Hb2 HS hz
  go_wp2
  exact bodyPost_ret (v := .agg #[.bool b.neg, .slice A1 m1 c1, .int .i64 b.e]) (by simp [results, Tryz.results47, go_sem, y0, y1, y2]) rfl Hfin.out
end Go.Proofs.YtijhdlkfihjbiaaGreatDoor
/- From what the form reads to what the walks ask: a dyad that came in. -/
namespace Go.Proofs.YtijhdlkfihjbiaaGreatDoor
open Go.ChangeShapes Go.WideShapes Go.ChangeAt Go.RowKit Go.Joins

theorem cellsDy : Tryz.prog.cellsOf 24 = 3 := by kernel_rfl

end Go.Proofs.YtijhdlkfihjbiaaGreatDoor
