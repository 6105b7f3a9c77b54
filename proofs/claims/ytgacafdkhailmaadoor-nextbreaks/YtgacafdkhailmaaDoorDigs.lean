/- Plain mathematics of lists of digits to the base 65536, lowest one first: the limbs' text at the other base. No program is named here. -/
namespace Go.Proofs.YtgacafdkhailmaaDoor.D

/-- The number that a list of limbs is. -/
def val : List Nat → Nat
  | [] => 0
  | x :: xs => x + 65536 * val xs

/-- The length without leading noughts. -/
def tl : List Nat → Nat
  | [] => 0
  | x :: xs => if tl xs = 0 then (if x = 0 then 0 else 1) else tl xs + 1

/-- 2 to 16 times k. -/
def pw (k : Nat) : Nat := 65536 ^ k

theorem pw_zero : pw 0 = 1 := rfl
theorem pw_succ (k : Nat) : pw (k + 1) = 65536 * pw k := by unfold pw; rw [Nat.pow_succ, Nat.mul_comm]
theorem pw_pos (k : Nat) : 0 < pw k := Nat.pow_pos (by decide)
theorem pw_add (j k : Nat) : pw (j + k) = pw j * pw k := by unfold pw; rw [Nat.pow_add]
theorem pw_mono {j k : Nat} (h : j ≤ k) : pw j ≤ pw k := Nat.pow_le_pow_right (by decide) h
theorem pw_two (k : Nat) : pw k = 2 ^ (16 * k) := by
  unfold pw
  rw [Nat.pow_mul]

/-- Each limb is below 65536. -/
def Words (xs : List Nat) : Prop := ∀ x ∈ xs, x < 65536

theorem Words.nil : Words [] := by intro x hx; cases hx
theorem Words.tail {x : Nat} {xs : List Nat} (h : Words (x :: xs)) : Words xs := fun y hy => h y (List.mem_cons_of_mem _ hy)
theorem Words.head {x : Nat} {xs : List Nat} (h : Words (x :: xs)) : x < 65536 := h x List.mem_cons_self
theorem Words.cons {x : Nat} {xs : List Nat} (hx : x < 65536) (h : Words xs) : Words (x :: xs) := by
  intro y hy
  rcases List.mem_cons.1 hy with rfl | hy
  · exact hx
  · exact h y hy
theorem Words.getD {xs : List Nat} (h : Words xs) (k : Nat) : xs.getD k 0 < 65536 := by
  rw [List.getD_eq_getElem?_getD]
  cases e : xs[k]? with
  | none => simp
  | some x => simpa using h x (List.mem_of_getElem? e)
theorem Words.take {xs : List Nat} (h : Words xs) (k : Nat) : Words (xs.take k) := fun x hx => h x (List.mem_of_mem_take hx)
theorem Words.drop {xs : List Nat} (h : Words xs) (k : Nat) : Words (xs.drop k) := fun x hx => h x (List.mem_of_mem_drop hx)
theorem Words.append {xs ys : List Nat} (h : Words xs) (h' : Words ys) : Words (xs ++ ys) := by
  intro x hx
  rcases List.mem_append.1 hx with hx | hx
  · exact h x hx
  · exact h' x hx
theorem Words.one {x : Nat} (hx : x < 65536) : Words [x] := Words.cons hx Words.nil
/-- A list given by its limbs. -/
theorem Words.of_getD {xs : List Nat} (h : ∀ k, k < xs.length → xs.getD k 0 < 65536) : Words xs := by
  intro x hx
  obtain ⟨k, hk, rfl⟩ := List.getElem_of_mem hx
  have := h k hk
  rwa [List.getD_eq_getElem?_getD, List.getElem?_eq_getElem hk, Option.getD_some] at this

theorem val_append (xs ys : List Nat) : val (xs ++ ys) = val xs + pw xs.length * val ys := by
  induction xs with
  | nil => simp [val, pw_zero]
  | cons x xs ih =>
    rw [List.cons_append, val, val, ih, List.length_cons, pw_succ, Nat.mul_add, Nat.mul_assoc]
    omega

theorem val_lt {xs : List Nat} (h : Words xs) : val xs < pw xs.length := by
  induction xs with
  | nil => simp [val, pw_zero]
  | cons x xs ih =>
    have h1 := ih h.tail
    have h2 := h.head
    rw [val, List.length_cons, pw_succ]
    omega

theorem val_split (xs : List Nat) (k : Nat) (hk : k ≤ xs.length) : val xs = val (xs.take k) + pw k * val (xs.drop k) := by
  have := val_append (xs.take k) (xs.drop k)
  rwa [List.take_append_drop, List.length_take, Nat.min_eq_left hk] at this

theorem getD_cons_succ (x : Nat) (xs : List Nat) (k : Nat) : (x :: xs).getD (k + 1) 0 = xs.getD k 0 := by simp [List.getD]
theorem getD_cons_zero (x : Nat) (xs : List Nat) : (x :: xs).getD 0 0 = x := rfl

theorem drop_cons (xs : List Nat) (k : Nat) (hk : k < xs.length) : xs.drop k = xs.getD k 0 :: xs.drop (k + 1) := by
  rw [List.drop_eq_getElem_cons hk, List.getD_eq_getElem?_getD, List.getElem?_eq_getElem hk, Option.getD_some]

theorem take_snoc (xs : List Nat) (k : Nat) (hk : k < xs.length) : xs.take (k + 1) = xs.take k ++ [xs.getD k 0] := by
  rw [List.take_succ_eq_append_getElem hk, List.getD_eq_getElem?_getD, List.getElem?_eq_getElem hk, Option.getD_some]

theorem val_take_succ (xs : List Nat) (k : Nat) (hk : k < xs.length) : val (xs.take (k + 1)) = val (xs.take k) + pw k * xs.getD k 0 := by
  rw [take_snoc xs k hk, val_append, List.length_take, Nat.min_eq_left (by omega)]
  simp [val]

/-- Past the end nothing more comes. -/
theorem val_take_succ' (xs : List Nat) (k : Nat) : val (xs.take (k + 1)) = val (xs.take k) + pw k * xs.getD k 0 := by
  by_cases hk : k < xs.length
  · exact val_take_succ xs k hk
  · have : xs.getD k 0 = 0 := by rw [List.getD_eq_getElem?_getD, List.getElem?_eq_none (by omega)]; rfl
    rw [this, List.take_of_length_le (by omega), List.take_of_length_le (by omega)]
    omega

theorem val_snoc (xs : List Nat) (x : Nat) : val (xs ++ [x]) = val xs + pw xs.length * x := by rw [val_append]; simp [val]

theorem tl_le (xs : List Nat) : tl xs ≤ xs.length := by
  induction xs with
  | nil => exact Nat.le_refl _
  | cons x xs ih =>
    rw [tl, List.length_cons]
    split
    · split <;> omega
    · omega

theorem tl_zero {xs : List Nat} (h : tl xs = 0) : val xs = 0 := by
  induction xs with
  | nil => rfl
  | cons x xs ih =>
    rw [tl] at h
    split at h
    · rename_i h0
      split at h
      · rename_i hx; rw [val, ih h0, hx]
      · omega
    · omega

theorem val_take_tl (xs : List Nat) : val (xs.take (tl xs)) = val xs := by
  induction xs with
  | nil => rfl
  | cons x xs ih =>
    rw [tl]
    split
    · rename_i h0
      split
      · rename_i hx; rw [val, tl_zero h0, hx]; rfl
      · rw [List.take_succ_cons, val, val, List.take_zero, tl_zero h0]; rfl
    · rw [List.take_succ_cons, val, val, ih]

theorem getD_of_tl {xs : List Nat} {j : Nat} (h : tl xs ≤ j) : xs.getD j 0 = 0 := by
  induction xs generalizing j with
  | nil => simp
  | cons x xs ih =>
    rw [tl] at h
    cases j with
    | zero =>
      split at h
      · split at h
        · assumption
        · omega
      · omega
    | succ j =>
      rw [getD_cons_succ]
      apply ih
      split at h
      · omega
      · omega

theorem getD_tl_pred {xs : List Nat} {j : Nat} (h : tl xs = j + 1) : xs.getD j 0 ≠ 0 := by
  induction xs generalizing j with
  | nil => simp [tl] at h
  | cons x xs ih =>
    rw [tl] at h
    split at h
    · split at h
      · omega
      · obtain rfl : j = 0 := by omega
        assumption
    · rename_i h0
      cases j with
      | zero => omega
      | succ j =>
        rw [getD_cons_succ]
        exact ih (by omega)

/-- What the trimmed length is. -/
theorem tl_eq {xs : List Nat} {k : Nat} (h1 : ∀ j, k ≤ j → j < xs.length → xs.getD j 0 = 0) (h2 : ∀ j, k = j + 1 → xs.getD j 0 ≠ 0) : tl xs = k := by
  rcases Nat.lt_trichotomy (tl xs) k with h | h | h
  · cases k with
    | zero => omega
    | succ j => exact absurd (getD_of_tl (j := j) (by omega)) (h2 j rfl)
  · exact h
  · obtain ⟨j, hj⟩ : ∃ j, tl xs = j + 1 := ⟨tl xs - 1, by omega⟩
    have := tl_le xs
    exact absurd (h1 j (by omega) (by omega)) (getD_tl_pred hj)

theorem val_pos_of_tl {xs : List Nat} {j : Nat} (h : tl xs = j + 1) : pw j ≤ val xs := by
  have hl := tl_le xs
  have h1 := val_take_succ xs j (by omega)
  have h2 := getD_tl_pred h
  have h3 := val_take_tl xs
  rw [h] at h3
  rw [← h3, h1]
  have : pw j * 1 ≤ pw j * xs.getD j 0 := Nat.mul_le_mul_left _ (by omega)
  omega

theorem val_lt_tl {xs : List Nat} (h : Words xs) : val xs < pw (tl xs) := by
  have h1 := val_lt (h.take (tl xs))
  rw [List.length_take, Nat.min_eq_left (tl_le xs), val_take_tl] at h1
  exact h1

theorem tl_zero_iff {xs : List Nat} : tl xs = 0 ↔ val xs = 0 := by
  constructor
  · exact tl_zero
  · intro h
    cases e : tl xs with
    | zero => rfl
    | succ j =>
      have := val_pos_of_tl e
      have := pw_pos j
      omega

/-- Fewer limbs: less. -/
theorem val_lt_of_tl_lt {xs ys : List Nat} (hx : Words xs) (h : tl xs < tl ys) : val xs < val ys := by
  obtain ⟨j, hj⟩ : ∃ j, tl ys = j + 1 := ⟨tl ys - 1, by omega⟩
  have h1 := val_lt_tl hx
  have h2 := val_pos_of_tl hj
  have h3 : pw (tl xs) ≤ pw j := pw_mono (by omega)
  omega

theorem tl_le_of_val_le {xs ys : List Nat} (hy : Words ys) (h : val xs ≤ val ys) : tl xs ≤ tl ys := by
  rcases Nat.lt_or_ge (tl ys) (tl xs) with h' | h'
  · have := val_lt_of_tl_lt hy h'
    omega
  · exact h'

theorem tl_of_val_eq {xs ys : List Nat} (hx : Words xs) (hy : Words ys) (h : val xs = val ys) : tl xs = tl ys := by
  have h1 := tl_le_of_val_le hy (Nat.le_of_eq h)
  have h2 := tl_le_of_val_le hx (Nat.le_of_eq h.symm)
  omega

/-- The first limb from above that differs decides. -/
theorem val_lt_of_digit {xs ys : List Nat} (hx : Words xs) {i n : Nat} (hi : i < n) (hxl : n ≤ xs.length) (hyl : n ≤ ys.length)
    (he : ∀ j, i < j → j < n → xs.getD j 0 = ys.getD j 0) (hd : xs.getD i 0 < ys.getD i 0) : val (xs.take n) < val (ys.take n) := by
  induction n with
  | zero => omega
  | succ n ih =>
    rw [val_take_succ xs n (by omega), val_take_succ ys n (by omega)]
    by_cases h : i = n
    · subst h
      have h1 := val_lt (hx.take i)
      rw [List.length_take, Nat.min_eq_left (by omega)] at h1
      have h2 : pw i * (xs.getD i 0 + 1) ≤ pw i * ys.getD i 0 := Nat.mul_le_mul_left _ hd
      rw [Nat.mul_add] at h2
      omega
    · have h1 := ih (by omega) (by omega) (by omega) (fun j hj hjn => he j hj (by omega))
      rw [he n (by omega) (by omega)]
      omega

theorem take_congr {xs ys : List Nat} {n : Nat} (he : ∀ j, j < n → xs.getD j 0 = ys.getD j 0) : val (xs.take n) = val (ys.take n) := by
  induction n with
  | zero => simp
  | succ n ih => rw [val_take_succ', val_take_succ', ih (fun j hj => he j (by omega)), he n (by omega)]

/-- A bare list: its last limb isn't 0. -/
def Bare (xs : List Nat) : Prop := tl xs = xs.length

theorem tl_take {xs : List Nat} : tl (xs.take (tl xs)) = tl xs := by
  apply tl_eq
  · intro j h1 h2
    rw [List.length_take] at h2
    have := tl_le xs
    omega
  · intro j hj
    have := getD_tl_pred hj
    rw [List.getD_eq_getElem?_getD, List.getElem?_take_of_lt (by omega), ← List.getD_eq_getElem?_getD]
    exact this
theorem bare_take (xs : List Nat) : Bare (xs.take (tl xs)) := by
  unfold Bare
  rw [tl_take, List.length_take, Nat.min_eq_left (tl_le xs)]

/-- Two bare lists of one value are one. -/
theorem eq_of_val {xs ys : List Nat} (hx : Words xs) (hy : Words ys) (hl : xs.length = ys.length) (h : val xs = val ys) : xs = ys := by
  induction xs generalizing ys with
  | nil => cases ys with
    | nil => rfl
    | cons y ys => simp at hl
  | cons x xs ih => cases ys with
    | nil => simp at hl
    | cons y ys =>
      rw [val, val] at h
      have h1 := hx.head
      have h2 := hy.head
      have e1 : x = y := by omega
      have e2 : val xs = val ys := by omega
      rw [e1, ih hx.tail hy.tail (by simpa using hl) e2]
theorem bare_eq {xs ys : List Nat} (hx : Words xs) (hy : Words ys) (bx : Bare xs) (by_ : Bare ys) (h : val xs = val ys) : xs = ys := by
  refine eq_of_val hx hy ?_ h
  rw [← bx, ← by_]
  exact tl_of_val_eq hx hy h

end Go.Proofs.YtgacafdkhailmaaDoor.D
