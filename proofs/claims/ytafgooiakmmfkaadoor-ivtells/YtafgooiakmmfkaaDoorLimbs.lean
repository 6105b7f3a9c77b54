/- Plain mathematics of lists of limbs (base 2^64), lowest one first: value, trimmed length, order. No program is named here. -/
import Derived.Lib.TrailingZeros
namespace Go.Proofs.YtafgooiakmmfkaaDoor

/-- The number that a list of limbs is. -/
def val : List Nat → Nat
  | [] => 0
  | x :: xs => x + 18446744073709551616 * val xs

/-- The length without leading noughts. -/
def tl : List Nat → Nat
  | [] => 0
  | x :: xs => if tl xs = 0 then (if x = 0 then 0 else 1) else tl xs + 1

/-- 2 to 64 times k. -/
def pw (k : Nat) : Nat := 18446744073709551616 ^ k

theorem pw_zero : pw 0 = 1 := rfl
theorem pw_succ (k : Nat) : pw (k + 1) = 18446744073709551616 * pw k := by unfold pw; rw [Nat.pow_succ, Nat.mul_comm]
theorem pw_pos (k : Nat) : 0 < pw k := Nat.pow_pos (by decide)
theorem pw_add (j k : Nat) : pw (j + k) = pw j * pw k := by unfold pw; rw [Nat.pow_add]
theorem pw_mono {j k : Nat} (h : j ≤ k) : pw j ≤ pw k := Nat.pow_le_pow_right (by decide) h
theorem pw_two (k : Nat) : pw k = 2 ^ (64 * k) := by
  unfold pw
  rw [Nat.pow_mul]

/-- Each limb is below 2^64. -/
def Words (xs : List Nat) : Prop := ∀ x ∈ xs, x < 18446744073709551616

theorem Words.nil : Words [] := by intro x hx; cases hx
theorem Words.tail {x : Nat} {xs : List Nat} (h : Words (x :: xs)) : Words xs := fun y hy => h y (List.mem_cons_of_mem _ hy)
theorem Words.head {x : Nat} {xs : List Nat} (h : Words (x :: xs)) : x < 18446744073709551616 := h x List.mem_cons_self
theorem Words.cons {x : Nat} {xs : List Nat} (hx : x < 18446744073709551616) (h : Words xs) : Words (x :: xs) := by
  intro y hy
  rcases List.mem_cons.1 hy with rfl | hy
  · exact hx
  · exact h y hy
theorem Words.getD {xs : List Nat} (h : Words xs) (k : Nat) : xs.getD k 0 < 18446744073709551616 := by
  rw [List.getD_eq_getElem?_getD]
  cases e : xs[k]? with
  | none => simp
  | some x => simpa using h x (List.mem_of_getElem? e)
theorem Words.take {xs : List Nat} (h : Words xs) (k : Nat) : Words (xs.take k) := fun x hx => h x (List.mem_of_mem_take hx)
theorem Words.drop {xs : List Nat} (h : Words xs) (k : Nat) : Words (xs.drop k) := fun x hx => h x (List.mem_of_mem_drop hx)
theorem Words.append {xs ys : List Nat} (h : Words xs) (h' : Words ys) : Words (xs ++ ys) := by
  intro x hx
  rcases List.mem_append.1 hx with hx | hx
  · exact h x hx
  · exact h' x hx
theorem Words.one {x : Nat} (hx : x < 18446744073709551616) : Words [x] := Words.cons hx Words.nil
/-- A list given by its limbs. -/
theorem Words.of_getD {xs : List Nat} (h : ∀ k, k < xs.length → xs.getD k 0 < 18446744073709551616) : Words xs := by
  intro x hx
  obtain ⟨k, hk, rfl⟩ := List.getElem_of_mem hx
  have := h k hk
  rwa [List.getD_eq_getElem?_getD, List.getElem?_eq_getElem hk, Option.getD_some] at this

theorem val_append (xs ys : List Nat) : val (xs ++ ys) = val xs + pw xs.length * val ys := by
  induction xs with
  | nil => simp [val, pw_zero]
  | cons x xs ih =>
    rw [List.cons_append, val, val, ih, List.length_cons, pw_succ, Nat.mul_add, Nat.mul_assoc]
    omega

theorem val_lt {xs : List Nat} (h : Words xs) : val xs < pw xs.length := by
  induction xs with
  | nil => simp [val, pw_zero]
  | cons x xs ih =>
    have h1 := ih h.tail
    have h2 := h.head
    rw [val, List.length_cons, pw_succ]
    omega

theorem val_split (xs : List Nat) (k : Nat) (hk : k ≤ xs.length) : val xs = val (xs.take k) + pw k * val (xs.drop k) := by
  have := val_append (xs.take k) (xs.drop k)
  rwa [List.take_append_drop, List.length_take, Nat.min_eq_left hk] at this

theorem getD_cons_succ (x : Nat) (xs : List Nat) (k : Nat) : (x :: xs).getD (k + 1) 0 = xs.getD k 0 := by simp [List.getD]
theorem getD_cons_zero (x : Nat) (xs : List Nat) : (x :: xs).getD 0 0 = x := rfl

theorem drop_cons (xs : List Nat) (k : Nat) (hk : k < xs.length) : xs.drop k = xs.getD k 0 :: xs.drop (k + 1) := by
  rw [List.drop_eq_getElem_cons hk, List.getD_eq_getElem?_getD, List.getElem?_eq_getElem hk, Option.getD_some]

theorem take_snoc (xs : List Nat) (k : Nat) (hk : k < xs.length) : xs.take (k + 1) = xs.take k ++ [xs.getD k 0] := by
  rw [List.take_succ_eq_append_getElem hk, List.getD_eq_getElem?_getD, List.getElem?_eq_getElem hk, Option.getD_some]

theorem val_take_succ (xs : List Nat) (k : Nat) (hk : k < xs.length) : val (xs.take (k + 1)) = val (xs.take k) + pw k * xs.getD k 0 := by
  rw [take_snoc xs k hk, val_append, List.length_take, Nat.min_eq_left (by omega)]
  simp [val]

/-- Past the end nothing more comes. -/
theorem val_take_succ' (xs : List Nat) (k : Nat) : val (xs.take (k + 1)) = val (xs.take k) + pw k * xs.getD k 0 := by
  by_cases hk : k < xs.length
  · exact val_take_succ xs k hk
  · have : xs.getD k 0 = 0 := by rw [List.getD_eq_getElem?_getD, List.getElem?_eq_none (by omega)]; rfl
    rw [this, List.take_of_length_le (by omega), List.take_of_length_le (by omega)]
    omega

theorem val_snoc (xs : List Nat) (x : Nat) : val (xs ++ [x]) = val xs + pw xs.length * x := by rw [val_append]; simp [val]

theorem tl_le (xs : List Nat) : tl xs ≤ xs.length := by
  induction xs with
  | nil => exact Nat.le_refl _
  | cons x xs ih =>
    rw [tl, List.length_cons]
    split
    · split <;> omega
    · omega

theorem tl_zero {xs : List Nat} (h : tl xs = 0) : val xs = 0 := by
  induction xs with
  | nil => rfl
  | cons x xs ih =>
    rw [tl] at h
    split at h
    · rename_i h0
      split at h
      · rename_i hx; rw [val, ih h0, hx]
      · omega
    · omega

theorem val_take_tl (xs : List Nat) : val (xs.take (tl xs)) = val xs := by
  induction xs with
  | nil => rfl
  | cons x xs ih =>
    rw [tl]
    split
    · rename_i h0
      split
      · rename_i hx; rw [val, tl_zero h0, hx]; rfl
      · rw [List.take_succ_cons, val, val, List.take_zero, tl_zero h0]; rfl
    · rw [List.take_succ_cons, val, val, ih]

theorem getD_of_tl {xs : List Nat} {j : Nat} (h : tl xs ≤ j) : xs.getD j 0 = 0 := by
  induction xs generalizing j with
  | nil => simp
  | cons x xs ih =>
    rw [tl] at h
    cases j with
    | zero =>
      split at h
      · split at h
        · assumption
        · omega
      · omega
    | succ j =>
      rw [getD_cons_succ]
      apply ih
      split at h
      · omega
      · omega

theorem getD_tl_pred {xs : List Nat} {j : Nat} (h : tl xs = j + 1) : xs.getD j 0 ≠ 0 := by
  induction xs generalizing j with
  | nil => simp [tl] at h
  | cons x xs ih =>
    rw [tl] at h
    split at h
    · split at h
      · omega
      · obtain rfl : j = 0 := by omega
        assumption
    · rename_i h0
      cases j with
      | zero => omega
      | succ j =>
        rw [getD_cons_succ]
        exact ih (by omega)

/-- What the trimmed length is. -/
theorem tl_eq {xs : List Nat} {k : Nat} (h1 : ∀ j, k ≤ j → j < xs.length → xs.getD j 0 = 0) (h2 : ∀ j, k = j + 1 → xs.getD j 0 ≠ 0) : tl xs = k := by
  rcases Nat.lt_trichotomy (tl xs) k with h | h | h
  · cases k with
    | zero => omega
    | succ j => exact absurd (getD_of_tl (j := j) (by omega)) (h2 j rfl)
  · exact h
  · obtain ⟨j, hj⟩ : ∃ j, tl xs = j + 1 := ⟨tl xs - 1, by omega⟩
    have := tl_le xs
    exact absurd (h1 j (by omega) (by omega)) (getD_tl_pred hj)

theorem val_pos_of_tl {xs : List Nat} {j : Nat} (h : tl xs = j + 1) : pw j ≤ val xs := by
  have hl := tl_le xs
  have h1 := val_take_succ xs j (by omega)
  have h2 := getD_tl_pred h
  have h3 := val_take_tl xs
  rw [h] at h3
  rw [← h3, h1]
  have : pw j * 1 ≤ pw j * xs.getD j 0 := Nat.mul_le_mul_left _ (by omega)
  omega

theorem val_lt_tl {xs : List Nat} (h : Words xs) : val xs < pw (tl xs) := by
  have h1 := val_lt (h.take (tl xs))
  rw [List.length_take, Nat.min_eq_left (tl_le xs), val_take_tl] at h1
  exact h1

theorem tl_zero_iff {xs : List Nat} : tl xs = 0 ↔ val xs = 0 := by
  constructor
  · exact tl_zero
  · intro h
    cases e : tl xs with
    | zero => rfl
    | succ j =>
      have := val_pos_of_tl e
      have := pw_pos j
      omega

/-- Fewer limbs: less. -/
theorem val_lt_of_tl_lt {xs ys : List Nat} (hx : Words xs) (h : tl xs < tl ys) : val xs < val ys := by
  obtain ⟨j, hj⟩ : ∃ j, tl ys = j + 1 := ⟨tl ys - 1, by omega⟩
  have h1 := val_lt_tl hx
  have h2 := val_pos_of_tl hj
  have h3 : pw (tl xs) ≤ pw j := pw_mono (by omega)
  omega

theorem tl_le_of_val_le {xs ys : List Nat} (hy : Words ys) (h : val xs ≤ val ys) : tl xs ≤ tl ys := by
  rcases Nat.lt_or_ge (tl ys) (tl xs) with h' | h'
  · have := val_lt_of_tl_lt hy h'
    omega
  · exact h'

theorem tl_of_val_eq {xs ys : List Nat} (hx : Words xs) (hy : Words ys) (h : val xs = val ys) : tl xs = tl ys := by
  have h1 := tl_le_of_val_le hy (Nat.le_of_eq h)
  have h2 := tl_le_of_val_le hx (Nat.le_of_eq h.symm)
  omega

/-- The first limb from above that differs decides. -/
theorem val_lt_of_digit {xs ys : List Nat} (hx : Words xs) {i n : Nat} (hi : i < n) (hxl : n ≤ xs.length) (hyl : n ≤ ys.length)
    (he : ∀ j, i < j → j < n → xs.getD j 0 = ys.getD j 0) (hd : xs.getD i 0 < ys.getD i 0) : val (xs.take n) < val (ys.take n) := by
  induction n with
  | zero => omega
  | succ n ih =>
    rw [val_take_succ xs n (by omega), val_take_succ ys n (by omega)]
    by_cases h : i = n
    · subst h
      have h1 := val_lt (hx.take i)
      rw [List.length_take, Nat.min_eq_left (by omega)] at h1
      have h2 : pw i * (xs.getD i 0 + 1) ≤ pw i * ys.getD i 0 := Nat.mul_le_mul_left _ hd
      rw [Nat.mul_add] at h2
      omega
    · have h1 := ih (by omega) (by omega) (by omega) (fun j hj hjn => he j hj (by omega))
      rw [he n (by omega) (by omega)]
      omega

theorem take_congr {xs ys : List Nat} {n : Nat} (he : ∀ j, j < n → xs.getD j 0 = ys.getD j 0) : val (xs.take n) = val (ys.take n) := by
  induction n with
  | zero => simp
  | succ n ih => rw [val_take_succ', val_take_succ', ih (fun j hj => he j (by omega)), he n (by omega)]

/-- A bare list: its last limb isn't 0. -/
def Bare (xs : List Nat) : Prop := tl xs = xs.length

theorem tl_take {xs : List Nat} : tl (xs.take (tl xs)) = tl xs := by
  apply tl_eq
  · intro j h1 h2
    rw [List.length_take] at h2
    have := tl_le xs
    omega
  · intro j hj
    have := getD_tl_pred hj
    rw [List.getD_eq_getElem?_getD, List.getElem?_take_of_lt (by omega), ← List.getD_eq_getElem?_getD]
    exact this
theorem bare_take (xs : List Nat) : Bare (xs.take (tl xs)) := by
  unfold Bare
  rw [tl_take, List.length_take, Nat.min_eq_left (tl_le xs)]

/-- Two bare lists of one value are one. -/
theorem eq_of_val {xs ys : List Nat} (hx : Words xs) (hy : Words ys) (hl : xs.length = ys.length) (h : val xs = val ys) : xs = ys := by
  induction xs generalizing ys with
  | nil => cases ys with
    | nil => rfl
    | cons y ys => simp at hl
  | cons x xs ih => cases ys with
    | nil => simp at hl
    | cons y ys =>
      rw [val, val] at h
      have h1 := hx.head
      have h2 := hy.head
      have e1 : x = y := by omega
      have e2 : val xs = val ys := by omega
      rw [e1, ih hx.tail hy.tail (by simpa using hl) e2]
theorem bare_eq {xs ys : List Nat} (hx : Words xs) (hy : Words ys) (bx : Bare xs) (by_ : Bare ys) (h : val xs = val ys) : xs = ys := by
  refine eq_of_val hx hy ?_ h
  rw [← bx, ← by_]
  exact tl_of_val_eq hx hy h

/-- -1, 0, 1. -/
def cmpZ (x y : Nat) : Int := if x < y then -1 else if x = y then 0 else 1
theorem cmpZ_lt {x y : Nat} (h : x < y) : cmpZ x y = -1 := by simp [cmpZ, h]
theorem cmpZ_eq {x y : Nat} (h : x = y) : cmpZ x y = 0 := by simp [cmpZ, h]
theorem cmpZ_gt {x y : Nat} (h : y < x) : cmpZ x y = 1 := by
  rw [cmpZ, if_neg (by omega), if_neg (by omega)]


/-- How many bits a number has. -/
def blen (x : Nat) : Nat := if x = 0 then 0 else Nat.log2 x + 1
theorem blen_zero : blen 0 = 0 := rfl
theorem lt_blen (x : Nat) : x < 2 ^ blen x := by
  unfold blen
  split
  · rename_i h; subst h; decide
  · exact Nat.lt_log2_self
theorem blen_le {x : Nat} (h : x ≠ 0) : 2 ^ (blen x - 1) ≤ x := by
  unfold blen
  rw [if_neg h, Nat.add_sub_cancel]
  exact Nat.log2_self_le h
theorem blen_pos {x : Nat} (h : x ≠ 0) : 1 ≤ blen x := by unfold blen; rw [if_neg h]; omega
theorem blen_le_iff {x k : Nat} : blen x ≤ k ↔ x < 2 ^ k := by
  constructor
  · intro h
    exact Nat.lt_of_lt_of_le (lt_blen x) (Nat.pow_le_pow_right (by decide) h)
  · intro h
    by_cases h0 : x = 0
    · subst h0; exact Nat.zero_le _
    · have h1 := blen_le h0
      have h2 := blen_pos h0
      have h3 : 2 ^ (blen x - 1) < 2 ^ k := Nat.lt_of_le_of_lt h1 h
      have h4 := (Nat.pow_lt_pow_iff_right (a := 2) (by decide)).1 h3
      omega
theorem blen_eq {x k : Nat} (h1 : 2 ^ (k - 1) ≤ x) (h2 : x < 2 ^ k) (hk : 1 ≤ k) : blen x = k := by
  have a := blen_le_iff.2 h2
  have b : ¬ blen x ≤ k - 1 := fun h => by have := blen_le_iff.1 h; omega
  omega
theorem blen_mono {x y : Nat} (h : x ≤ y) : blen x ≤ blen y := blen_le_iff.2 (Nat.lt_of_le_of_lt h (lt_blen y))
theorem blen_zero_iff {x : Nat} : blen x = 0 ↔ x = 0 := by
  constructor
  · intro h; by_cases h0 : x = 0
    · exact h0
    · have := blen_pos h0; omega
  · intro h; subst h; rfl
/-- The bits of a number with j whole limbs below its last one. -/
theorem blen_last {lo x j : Nat} (hlo : lo < 2 ^ (64 * j)) (hx : x ≠ 0) : blen (lo + 2 ^ (64 * j) * x) = 64 * j + blen x := by
  have hx1 := blen_pos hx
  apply blen_eq
  · have h1 := blen_le hx
    have e : 64 * j + blen x - 1 = 64 * j + (blen x - 1) := by omega
    rw [e, Nat.pow_add]
    exact Nat.le_trans (Nat.mul_le_mul_left _ h1) (Nat.le_add_left _ _)
  · have h1 := lt_blen x
    rw [Nat.pow_add]
    have h2 : 2 ^ (64 * j) * (x + 1) ≤ 2 ^ (64 * j) * 2 ^ blen x := Nat.mul_le_mul_left _ h1
    rw [Nat.mul_add] at h2
    omega
  · omega
theorem blen_shl {x n : Nat} (hx : x ≠ 0) : blen (x * 2 ^ n) = blen x + n := by
  have hx1 := blen_pos hx
  apply blen_eq
  · have h1 := blen_le hx
    have e : blen x + n - 1 = (blen x - 1) + n := by omega
    rw [e, Nat.pow_add]
    exact Nat.mul_le_mul_right _ h1
  · rw [Nat.pow_add]
    exact Nat.mul_lt_mul_of_pos_right (lt_blen x) (Nat.pow_pos (by decide))
  · omega

/-- How often a number can be halved without rest (0 of 0). -/
def low (x : Nat) : Nat := Lib.ctzFrom x x
theorem low_zero : low 0 = 0 := rfl
theorem low_spec {x : Nat} (h : 0 < x) : ∃ m, x = 2 ^ low x * (2 * m + 1) := by
  obtain ⟨m, hm, _⟩ := Lib.ctzFrom_spec x x h Nat.lt_two_pow_self
  exact ⟨m, hm⟩
theorem pow_odd_unique {a b m k : Nat} (h : 2 ^ a * (2 * m + 1) = 2 ^ b * (2 * k + 1)) : a ≤ b := by
  rcases Nat.lt_or_ge b a with h' | h'
  · obtain ⟨d, rfl⟩ : ∃ d, a = b + (d + 1) := ⟨a - b - 1, by omega⟩
    rw [Nat.pow_add, Nat.mul_assoc] at h
    have h2 := Nat.eq_of_mul_eq_mul_left (Nat.pow_pos (by decide)) h
    rw [Nat.pow_succ, Nat.mul_assoc, Nat.mul_comm (2 ^ d), Nat.mul_assoc] at h2
    omega
  · exact h'
theorem low_eq {x l m : Nat} (h : x = 2 ^ l * (2 * m + 1)) : low x = l := by
  have hx : 0 < x := by rw [h]; exact Nat.mul_pos (Nat.pow_pos (by decide)) (by omega)
  obtain ⟨k, hk⟩ := low_spec hx
  have e : 2 ^ low x * (2 * k + 1) = 2 ^ l * (2 * m + 1) := hk.symm.trans h
  have h1 := pow_odd_unique e
  have h2 := pow_odd_unique e.symm
  omega
/-- There is a rest just where it can't be halved so often. -/
theorem low_lt_iff {x n : Nat} (hx : 0 < x) : low x < n ↔ x % 2 ^ n ≠ 0 := by
  obtain ⟨m, hm⟩ := low_spec hx
  generalize low x = l at hm
  constructor
  · intro h h0
    obtain ⟨d, rfl⟩ : ∃ d, n = l + (d + 1) := ⟨n - l - 1, by omega⟩
    obtain ⟨k, hk⟩ := Nat.dvd_of_mod_eq_zero h0
    rw [Nat.pow_add, Nat.mul_assoc] at hk
    have e := Nat.eq_of_mul_eq_mul_left (Nat.pow_pos (by decide)) (hm.symm.trans hk)
    rw [Nat.pow_succ, Nat.mul_assoc, Nat.mul_comm (2 ^ d), Nat.mul_assoc] at e
    omega
  · intro h
    rcases Nat.lt_or_ge l n with h' | h'
    · exact h'
    · exfalso
      apply h
      obtain ⟨d, rfl⟩ : ∃ d, l = n + d := ⟨l - n, by omega⟩
      rw [hm, Nat.pow_add, Nat.mul_assoc]
      exact Nat.mul_mod_right _ _
/-- The first limb that isn't 0 tells. -/
theorem low_limb {lo x r k t m : Nat} (hlo : lo = 0) (hx : x = 2 ^ t * (2 * m + 1)) (ht : t < 64) : low (lo + pw k * (x + 18446744073709551616 * r)) = 64 * k + t := by
  obtain ⟨d, hd⟩ : ∃ d, 64 = t + (d + 1) := ⟨64 - t - 1, by omega⟩
  have e64 : (18446744073709551616 : Nat) = 2 ^ t * (2 * 2 ^ d) := by
    rw [show (18446744073709551616 : Nat) = 2 ^ 64 from by decide, hd, Nat.pow_add, Nat.pow_succ, Nat.mul_comm (2 ^ d)]
  apply low_eq (m := m + 2 ^ d * r)
  rw [hlo, pw_two, Nat.zero_add, hx, Nat.pow_add, e64, Nat.mul_assoc, Nat.mul_assoc, Nat.mul_assoc, ← Nat.mul_add]
  congr 2
  omega
theorem val_of_zeros {xs : List Nat} {k : Nat} (h : ∀ j, j < k → xs.getD j 0 = 0) : val (xs.take k) = 0 := by
  induction k with
  | zero => simp [val]
  | succ k ih => rw [val_take_succ', ih (fun j hj => h j (by omega)), h k (by omega)]; rfl
theorem val_mod_two (x : Nat) (xs : List Nat) : val (x :: xs) % 2 = x % 2 := by rw [val]; omega

end Go.Proofs.YtafgooiakmmfkaaDoor
