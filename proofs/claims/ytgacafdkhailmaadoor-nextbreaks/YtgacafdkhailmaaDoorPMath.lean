/- Plain mathematics of products by columns, and of powers. No program is named here. -/
import Derived.Test.YtgacafdkhailmaaDoorLimbs
namespace Go.Proofs.YtgacafdkhailmaaDoor

theorem getD_out (xs : List Nat) {k : Nat} (h : xs.length ≤ k) : xs.getD k 0 = 0 := by
  rw [List.getD_eq_getElem?_getD, List.getElem?_eq_none h]; rfl
/-- The first i terms of column j. -/
def csum (xs ys : List Nat) (j : Nat) : Nat → Nat
  | 0 => 0
  | i + 1 => csum xs ys j i + xs.getD i 0 * ys.getD (j - i) 0
/-- The columns below N, each at its place. -/
def cols (xs ys : List Nat) : Nat → Nat
  | 0 => 0
  | N + 1 => cols xs ys N + pw N * csum xs ys N (N + 1)

theorem csum_cons (x : Nat) (xs ys : List Nat) (j i : Nat) : csum (x :: xs) ys (j + 1) (i + 1) = x * ys.getD (j + 1) 0 + csum xs ys j i := by
  induction i with
  | zero => simp [csum]
  | succ i ih =>
    rw [csum, ih, csum, getD_cons_succ, show j + 1 - (i + 1) = j - i from by omega]
    omega
theorem csum_nil (ys : List Nat) (j i : Nat) : csum [] ys j i = 0 := by
  induction i with
  | zero => rfl
  | succ i ih => rw [csum, ih]; simp
theorem cols_nil (ys : List Nat) (N : Nat) : cols [] ys N = 0 := by
  induction N with
  | zero => rfl
  | succ N ih => rw [cols, ih, csum_nil]; simp
theorem cols_cons (x : Nat) (xs ys : List Nat) (N : Nat) : cols (x :: xs) ys (N + 1) = x * val (ys.take (N + 1)) + 18446744073709551616 * cols xs ys N := by
  induction N with
  | zero =>
    rw [val_take_succ', cols, cols, csum, csum, cols, pw_zero, List.take_zero, getD_cons_zero]
    simp [val]
  | succ N ih =>
    rw [cols, ih, csum_cons, cols, val_take_succ' ys (N + 1), Nat.mul_add (pw (N + 1)), Nat.mul_add x, Nat.mul_add 18446744073709551616, ← Nat.mul_assoc 18446744073709551616 (pw N), ← pw_succ, Nat.mul_left_comm (pw (N + 1)) x]
    omega
/-- All columns: the product. -/
theorem cols_val {xs ys : List Nat} {N : Nat} (h : xs.length + ys.length ≤ N) : cols xs ys N = val xs * val ys := by
  induction xs generalizing N with
  | nil => rw [cols_nil]; simp [val]
  | cons x xs ih =>
    rw [List.length_cons] at h
    obtain ⟨M, rfl⟩ : ∃ M, N = M + 1 := ⟨N - 1, by omega⟩
    rw [cols_cons, List.take_of_length_le (by omega), ih (by omega), val, Nat.add_mul, Nat.mul_assoc]
/-- Ahead of the first term nothing comes. -/
theorem csum_first {xs ys : List Nat} {j i : Nat} (h : i + ys.length ≤ j + 1) : csum xs ys j i = 0 := by
  induction i with
  | zero => rfl
  | succ i ih =>
    rw [csum, ih (by omega), getD_out ys (show ys.length ≤ j - i by omega)]
    simp
/-- Behind the last one neither. -/
theorem csum_last {xs ys : List Nat} {j i k : Nat} (h : xs.length ≤ i) (hk : i ≤ k) : csum xs ys j k = csum xs ys j i := by
  induction k with
  | zero => rw [show i = 0 from by omega]
  | succ k ih =>
    by_cases e : i = k + 1
    · rw [e]
    · rw [csum, ih (by omega), getD_out xs (show xs.length ≤ k by omega)]
      simp
/-- One term more, in three limbs. -/
theorem acc_step {lo mi hi l h s1 t1 s2 t2 p q a : Nat} (hp : l + 18446744073709551616 * h = p) (h1 : s1 + 18446744073709551616 * t1 = lo + l + 0) (h2 : s2 + 18446744073709551616 * t2 = mi + h + t1)
    (ha : lo + 18446744073709551616 * mi + 340282366920938463463374607431768211456 * hi = a + q) : s1 + 18446744073709551616 * s2 + 340282366920938463463374607431768211456 * (hi + t2) = a + (q + p) := by
  omega
/-- A column is done. -/
theorem col_step {Z k lo mi hi S C a : Nat} (h : Z + pw k * a = C) (ha : lo + 18446744073709551616 * mi + 340282366920938463463374607431768211456 * hi = a + S) :
    Z + pw k * lo + pw (k + 1) * (mi + 18446744073709551616 * hi) = C + pw k * S := by
  have e : pw (k + 1) * (mi + 18446744073709551616 * hi) = pw k * (18446744073709551616 * mi + 340282366920938463463374607431768211456 * hi) := by
    rw [pw_succ, Nat.mul_comm 18446744073709551616, Nat.mul_assoc]
    congr 1
    omega
  have e2 : pw k * (lo + (18446744073709551616 * mi + 340282366920938463463374607431768211456 * hi)) = pw k * (a + S) := by
    congr 1
    omega
  rw [Nat.mul_add, Nat.mul_add (pw k) a] at e2
  omega
/-- All are done: nothing is left. -/
theorem col_end {Z k a V : Nat} (h : Z + pw k * a = V) (hV : V < pw k) : Z = V := by
  cases a with
  | zero => simpa using h
  | succ a =>
    rw [Nat.mul_succ] at h
    omega
theorem mul_lt_pw {xs ys : List Nat} (hx : Words xs) (hy : Words ys) : val xs * val ys < pw (xs.length + ys.length) := by
  rw [pw_add]
  have h1 := val_lt hx
  have h2 := val_lt hy
  exact Nat.mul_lt_mul'' h1 h2

/-- The bits of products and powers. -/
theorem blen_mul_le (x y : Nat) : blen (x * y) ≤ blen x + blen y := by
  apply blen_le_iff.2
  rw [Nat.pow_add]
  exact Nat.mul_lt_mul'' (lt_blen x) (lt_blen y)
theorem blen_mul_ge {x y : Nat} (hx : x ≠ 0) (hy : y ≠ 0) : blen x + blen y ≤ blen (x * y) + 1 := by
  have h1 := blen_le hx
  have h2 := blen_le hy
  have h3 : 2 ^ (blen x - 1 + (blen y - 1)) ≤ x * y := by rw [Nat.pow_add]; exact Nat.mul_le_mul h1 h2
  have h4 : ¬ blen (x * y) ≤ blen x - 1 + (blen y - 1) := fun h => by have := blen_le_iff.1 h; omega
  have h5 := blen_pos hx
  have h6 := blen_pos hy
  omega
theorem blen_pow_le (x k : Nat) (hx : 1 ≤ k) : blen (x ^ k) ≤ k * blen x := by
  apply blen_le_iff.2
  rw [Nat.mul_comm, Nat.pow_mul]
  exact Nat.pow_lt_pow_left (lt_blen x) (by omega)
theorem blen_pow_ge {x : Nat} (k : Nat) (hx : x ≠ 0) : k * (blen x - 1) < blen (x ^ k) := by
  have h1 := blen_le hx
  have h2 : 2 ^ (k * (blen x - 1)) ≤ x ^ k := by
    rw [Nat.mul_comm, Nat.pow_mul]
    exact Nat.pow_le_pow_left h1 k
  rcases Nat.lt_or_ge (k * (blen x - 1)) (blen (x ^ k)) with h | h
  · exact h
  · have := blen_le_iff.1 h
    omega
/-- How many limbs a number has, by its bits. -/
theorem tl_of_blen {xs : List Nat} (hw : Words xs) : tl xs = (blen (val xs) + 63) / 64 := by
  cases e : tl xs with
  | zero => rw [tl_zero e]; rfl
  | succ j =>
    have h1 := val_pos_of_tl e
    have h2 := val_lt_tl hw
    rw [e] at h2
    rw [pw_two] at h1 h2
    have h3 := blen_le_iff.2 h2
    have h4 : ¬ blen (val xs) ≤ 64 * j := fun h => by have := blen_le_iff.1 h; omega
    omega
theorem bare_len {xs : List Nat} (hw : Words xs) (hb : Bare xs) : xs.length = (blen (val xs) + 63) / 64 := by
  rw [← tl_of_blen hw]; exact hb.symm
theorem len_of_blen {xs : List Nat} {b L : Nat} (hw : Words xs) (hb : Bare xs) (h : blen (val xs) ≤ b) (hL : b ≤ 64 * L) : xs.length ≤ L := by
  rw [bare_len hw hb]; omega

theorem val_set (zs : List Nat) (k z : Nat) (hk : k < zs.length) : val (zs.set k z) + pw k * zs.getD k 0 = val zs + pw k * z := by
  induction zs generalizing k with
  | nil => simp at hk
  | cons x xs ih =>
    cases k with
    | zero => rw [List.set_cons_zero, val, val, pw_zero, getD_cons_zero]; omega
    | succ k =>
      rw [List.length_cons] at hk
      have := ih k (by omega)
      rw [List.set_cons_succ, val, val, pw_succ, getD_cons_succ, Nat.mul_assoc, Nat.mul_assoc]
      omega
theorem Words.set {zs : List Nat} (h : Words zs) (k : Nat) {z : Nat} (hz : z < 18446744073709551616) : Words (zs.set k z) := by
  intro x hx
  rcases List.mem_or_eq_of_mem_set hx with h1 | h1
  · exact h x h1
  · rw [h1]; exact hz
theorem val_zeros (L : Nat) : val (List.replicate L 0) = 0 := by
  induction L with
  | zero => rfl
  | succ L ih => rw [List.replicate_succ, val, ih]
/-- One limb of a sum in place. -/
theorem set_step {o x cn s t k Z U T : Nat} (hs : s + 18446744073709551616 * t = o + x + cn) (hset : U + pw k * o = Z + pw k * s) (h : Z + pw k * cn = T) : U + pw (k + 1) * t = T + pw k * x := by
  have e : pw (k + 1) * t = pw k * (18446744073709551616 * t) := by rw [pw_succ, Nat.mul_comm 18446744073709551616, Nat.mul_assoc]
  have e2 : pw k * (s + 18446744073709551616 * t) = pw k * (o + x + cn) := by rw [hs]
  rw [Nat.mul_add, Nat.mul_add, Nat.mul_add] at e2
  omega
/-- The sum of the first ones. -/
def tot (f : Nat → List Nat) : Nat → Nat
  | 0 => 0
  | j + 1 => tot f j + val (f j)
theorem tot_le {f : Nat → List Nat} {P j : Nat} (h : ∀ i, i < j → val (f i) ≤ P) : tot f j ≤ j * P := by
  induction j with
  | zero => exact Nat.zero_le _
  | succ j ih =>
    have h1 := ih (fun i hi => h i (by omega))
    have h2 := h j (by omega)
    rw [tot, Nat.succ_mul]
    omega
theorem tot_lt {f : Nat → List Nat} {l j : Nat} (h : ∀ i, i < j → val (f i) < pw l) (hj : j < 18446744073709551616) : tot f j < pw (l + 1) := by
  have h1 := tot_le (f := f) (P := pw l) (fun i hi => Nat.le_of_lt (h i hi))
  have h2 : j * pw l < 18446744073709551616 * pw l := Nat.mul_lt_mul_of_pos_right hj (pw_pos l)
  rw [pw_succ]
  omega
end Go.Proofs.YtgacafdkhailmaaDoor
