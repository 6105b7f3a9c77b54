/- The arithmetic of roots: the greatest number whose k-th power is at most a; Newton's step; roots of roots. -/
import Derived.Test.YtkgbgmhkbigjhaaDoorPMath
namespace Go.Proofs.YtkgbgmhkbigjhaaDoor

/-- The greatest of 0 .. n whose k-th power is at most a. -/
def rtUp (k a : Nat) : Nat → Nat
  | 0 => 0
  | n + 1 => if (n + 1) ^ k ≤ a then n + 1 else rtUp k a n
/-- The k-th root without what is behind the point. -/
def rt (k a : Nat) : Nat := rtUp k a a
theorem rtUp_le {k a : Nat} (hk : 1 ≤ k) (n : Nat) : rtUp k a n ^ k ≤ a := by
  induction n with
  | zero => rw [rtUp, Nat.zero_pow hk]; exact Nat.zero_le _
  | succ n ih => rw [rtUp]; split <;> assumption
theorem le_rtUp {k a x : Nat} (n : Nat) (hx : x ≤ n) (h : x ^ k ≤ a) : x ≤ rtUp k a n := by
  induction n with
  | zero => omega
  | succ n ih =>
    rw [rtUp]
    split
    · exact hx
    · rename_i h1
      rcases Nat.lt_or_ge n x with h2 | h2
      · have : x = n + 1 := by omega
        subst this; exact absurd h h1
      · exact ih h2
theorem le_pow_self (x : Nat) {k : Nat} (hk : 1 ≤ k) : x ≤ x ^ k := by
  rcases Nat.eq_zero_or_pos x with rfl | h
  · exact Nat.zero_le _
  · exact Nat.le_trans (Nat.le_of_eq (Nat.pow_one x).symm) (Nat.pow_le_pow_right h hk)
theorem rt_le {k a : Nat} (hk : 1 ≤ k) : rt k a ^ k ≤ a := rtUp_le hk a
theorem le_rt {k a x : Nat} (hk : 1 ≤ k) (h : x ^ k ≤ a) : x ≤ rt k a := le_rtUp a (Nat.le_trans (le_pow_self x hk) h) h
theorem lt_rt {k a : Nat} (hk : 1 ≤ k) : a < (rt k a + 1) ^ k := by
  rcases Nat.lt_or_ge a ((rt k a + 1) ^ k) with h | h
  · exact h
  · have := le_rt hk h; omega
theorem rt_self_le {k a : Nat} (hk : 1 ≤ k) : rt k a ≤ a := Nat.le_trans (le_pow_self _ hk) (rt_le hk)
theorem rt_lt_iff {k a x : Nat} (hk : 1 ≤ k) : rt k a < x ↔ a < x ^ k := by
  constructor
  · intro h; exact Nat.lt_of_lt_of_le (lt_rt hk) (Nat.pow_le_pow_left h k)
  · intro h
    rcases Nat.lt_or_ge (rt k a) x with h1 | h1
    · exact h1
    · have := Nat.le_trans (Nat.pow_le_pow_left h1 k) (rt_le hk); omega
theorem le_rt_iff {k a x : Nat} (hk : 1 ≤ k) : x ≤ rt k a ↔ x ^ k ≤ a := by
  constructor
  · intro h; exact Nat.le_trans (Nat.pow_le_pow_left h k) (rt_le hk)
  · exact le_rt hk
theorem rt_eq {k a r : Nat} (hk : 1 ≤ k) (h1 : r ^ k ≤ a) (h2 : a < (r + 1) ^ k) : rt k a = r := by
  have := le_rt hk h1
  have := (rt_lt_iff hk).2 h2
  omega
theorem rt_pow {k x : Nat} (hk : 1 ≤ k) : rt k (x ^ k) = x :=
  rt_eq hk (Nat.le_refl _) (Nat.pow_lt_pow_left (Nat.lt_succ_self x) (by omega))
theorem rt_mono {k a b : Nat} (hk : 1 ≤ k) (h : a ≤ b) : rt k a ≤ rt k b := le_rt hk (Nat.le_trans (rt_le hk) h)
theorem rt_nest {m n a : Nat} (hm : 1 ≤ m) (hn : 1 ≤ n) : rt n (rt m a) = rt (m * n) a := by
  have hmn : 1 ≤ m * n := Nat.mul_pos hm hn
  symm
  apply rt_eq hmn
  · rw [Nat.mul_comm, Nat.pow_mul]
    exact Nat.le_trans (Nat.pow_le_pow_left (rt_le hn) m) (rt_le hm)
  · rw [Nat.mul_comm, Nat.pow_mul]
    exact (rt_lt_iff hm).1 (lt_rt hn)
theorem rt_one_k (a : Nat) : rt 1 a = a := rt_eq (Nat.le_refl _) (by rw [Nat.pow_one]; exact Nat.le_refl _) (by rw [Nat.pow_one]; exact Nat.lt_succ_self a)
theorem rt_zero {k : Nat} (hk : 1 ≤ k) : rt k 0 = 0 := by have := rt_self_le (a := 0) hk; omega
theorem rt_one {k : Nat} (hk : 1 ≤ k) : rt k 1 = 1 := by have := rt_pow (x := 1) hk; rwa [Nat.one_pow] at this

/-- What the root is where a has at most k bits. -/
theorem rt_few {k a : Nat} (hk : 1 ≤ k) (h : blen a ≤ k) : rt k a = min (blen a) 1 := by
  rcases Nat.eq_zero_or_pos a with rfl | h0
  · rw [rt_zero hk, blen_zero]; rfl
  · have h1 := blen_pos (show a ≠ 0 by omega)
    rw [Nat.min_eq_right h1]
    apply rt_eq hk
    · rw [Nat.one_pow]; exact h0
    · exact blen_le_iff.1 h

/-- What is between two powers' means. -/
theorem mean_step (x r k : Nat) : (k + 1) * (r * x ^ k) ≤ r ^ (k + 1) + k * x ^ (k + 1) := by
  induction k with
  | zero => simp
  | succ k ih =>
    have h1 := Nat.mul_le_mul_left r ih
    have sq : 2 * (r * x) ≤ r * r + x * x := by
      rcases Nat.le_total r x with h | h
      · obtain ⟨d, rfl⟩ := Nat.exists_eq_add_of_le h
        have : r * r + (r + d) * (r + d) = 2 * (r * (r + d)) + d * d := by
          simp only [Nat.mul_add, Nat.add_mul, Nat.two_mul]; have := Nat.mul_comm d r; omega
        omega
      · obtain ⟨d, rfl⟩ := Nat.exists_eq_add_of_le h
        have : (x + d) * (x + d) + x * x = 2 * ((x + d) * x) + d * d := by
          simp only [Nat.mul_add, Nat.add_mul, Nat.two_mul]; have := Nat.mul_comm d x; omega
        omega
    have h2 := Nat.mul_le_mul_left ((k + 1) * x ^ k) sq
    have e1 : r * ((k + 1) * (r * x ^ k)) = (k + 1) * x ^ k * (r * r) := by ac_rfl
    have e2 : (k + 1) * x ^ k * (2 * (r * x)) = (k + 1) * (r * x ^ (k + 1)) + (k + 1) * (r * x ^ (k + 1)) := by
      rw [Nat.pow_succ, show (k + 1) * x ^ k * (2 * (r * x)) = 2 * ((k + 1) * (r * (x ^ k * x))) by ac_rfl, Nat.two_mul]
    have e3 : (k + 1) * x ^ k * (x * x) = (k + 1) * x ^ (k + 2) := by rw [Nat.pow_succ, Nat.pow_succ]; ac_rfl
    have e4 : r * (r ^ (k + 1) + k * x ^ (k + 1)) = r ^ (k + 2) + k * (r * x ^ (k + 1)) := by
      rw [Nat.mul_add, Nat.pow_succ r (k + 1), Nat.mul_comm (r ^ (k + 1)) r]; congr 1; ac_rfl
    rw [e1, e4] at h1
    rw [Nat.mul_add, e2, e3] at h2
    have e5 : (k + 1 + 1) * (r * x ^ (k + 1)) = (k + 1) * (r * x ^ (k + 1)) + r * x ^ (k + 1) := by rw [Nat.add_mul, Nat.one_mul]
    have e6 : (k + 1) * (r * x ^ (k + 1)) = k * (r * x ^ (k + 1)) + r * x ^ (k + 1) := by rw [Nat.add_mul, Nat.one_mul]
    rw [e5]
    show _ ≤ r ^ (k + 2) + (k + 1) * x ^ (k + 2)
    omega

/-- Newton's step. -/
def nstep (k a x : Nat) : Nat := (x * (k - 1) + a / x ^ (k - 1)) / k
theorem nstep_ge {k a x : Nat} (hk : 1 ≤ k) (hx : 1 ≤ x) : rt k a ≤ nstep k a x := by
  obtain ⟨j, rfl⟩ : ∃ j, k = j + 1 := ⟨k - 1, by omega⟩
  unfold nstep
  rw [Nat.add_sub_cancel]
  apply (Nat.le_div_iff_mul_le hk).2
  have h1 := mean_step x (rt (j + 1) a) j
  have h2 := rt_le (a := a) hk
  generalize rt (j + 1) a = r at h1 h2
  have hp : 0 < x ^ j := Nat.pow_pos hx
  rcases Nat.lt_or_ge (x * j) (r * (j + 1)) with h | h
  · obtain ⟨d, hd⟩ := Nat.exists_eq_add_of_le (Nat.le_of_lt h)
    rw [hd]
    apply Nat.add_le_add_left
    apply (Nat.le_div_iff_mul_le hp).2
    have e1 : (j + 1) * (r * x ^ j) = (r * (j + 1)) * x ^ j := by ac_rfl
    have e2 : x * j * x ^ j = j * x ^ (j + 1) := by rw [Nat.pow_succ]; ac_rfl
    rw [e1, hd, Nat.add_mul, e2] at h1
    omega
  · exact Nat.le_trans h (Nat.le_add_right _ _)
theorem nstep_lt {k a x : Nat} (hk : 1 ≤ k) (h : rt k a < x) : nstep k a x < x := by
  obtain ⟨j, rfl⟩ : ∃ j, k = j + 1 := ⟨k - 1, by omega⟩
  unfold nstep
  rw [Nat.add_sub_cancel]
  have hx : 0 < x := by omega
  have h1 := (rt_lt_iff hk).1 h
  have hp : 0 < x ^ j := Nat.pow_pos hx
  have h2 : a / x ^ j < x := (Nat.div_lt_iff_lt_mul hp).2 (by rw [Nat.mul_comm, ← Nat.pow_succ]; exact h1)
  apply (Nat.div_lt_iff_lt_mul hk).2
  rw [Nat.mul_add, Nat.mul_one]
  omega

/-- A number above the root, by the root of the upper half. -/
def start (k a h : Nat) : Nat := (rt k (a / 2 ^ (h * k)) + 1) * 2 ^ h
theorem start_gt {k a : Nat} (h : Nat) (hk : 1 ≤ k) : rt k a < start k a h := by
  apply (rt_lt_iff hk).2
  unfold start
  have h1 := lt_rt (a := a / 2 ^ (h * k)) hk
  rw [Nat.mul_pow, ← Nat.pow_mul]
  exact (Nat.div_lt_iff_lt_mul (Nat.two_pow_pos _)).1 h1
theorem start_le {k a h p : Nat} (hk : 1 ≤ k) (hp : blen a ≤ p * k) (hh : h ≤ p) : start k a h ≤ 2 ^ p := by
  unfold start
  have h1 := blen_le_iff.1 hp
  have h2 : rt k (a / 2 ^ (h * k)) < 2 ^ (p - h) := by
    apply (rt_lt_iff hk).2
    rw [← Nat.pow_mul]
    apply (Nat.div_lt_iff_lt_mul (Nat.two_pow_pos _)).2
    rw [← Nat.pow_add, ← Nat.add_mul, Nat.sub_add_cancel hh]
    exact h1
  calc (rt k (a / 2 ^ (h * k)) + 1) * 2 ^ h ≤ 2 ^ (p - h) * 2 ^ h := Nat.mul_le_mul_right _ h2
    _ = 2 ^ p := by rw [← Nat.pow_add, Nat.sub_add_cancel hh]

/-- Is it a k-th power? -/
def Ex (k a : Nat) : Prop := rt k a ^ k = a
instance (k a : Nat) : Decidable (Ex k a) := inferInstanceAs (Decidable (_ = _))
theorem ex_iff {k a : Nat} (hk : 1 ≤ k) : Ex k a ↔ ∃ s, s ^ k = a := by
  constructor
  · intro h; exact ⟨_, h⟩
  · rintro ⟨s, rfl⟩; unfold Ex; rw [rt_pow hk]
theorem ex_nest {m n a : Nat} (hm : 1 ≤ m) (hn : 1 ≤ n) : Ex (m * n) a ↔ Ex m a ∧ Ex n (rt m a) := by
  unfold Ex
  rw [rt_nest hm hn]
  constructor
  · intro h
    have h1 : rt m a = rt (m * n) a ^ n := by
      conv => lhs; rw [← h, Nat.mul_comm m n, Nat.pow_mul]
      rw [rt_pow hm, Nat.mul_comm]
    refine ⟨?_, h1.symm⟩
    rw [h1, ← Nat.pow_mul, Nat.mul_comm n m]; exact h
  · rintro ⟨h1, h2⟩
    rw [Nat.mul_comm m n, Nat.pow_mul, Nat.mul_comm n m, h2]; exact h1
theorem pow_inj {k a b : Nat} (hk : 1 ≤ k) (h : a ^ k = b ^ k) : a = b := by
  have := rt_pow (x := a) hk
  rw [h, rt_pow hk] at this
  exact this.symm
theorem ex_small {k a : Nat} (hk : 1 ≤ k) (h : a ≤ 1) : Ex k a ∧ rt k a = a := by
  have : a = 0 ∨ a = 1 := by omega
  rcases this with rfl | rfl
  · exact ⟨by rw [Ex, rt_zero hk, Nat.zero_pow hk], rt_zero hk⟩
  · exact ⟨by rw [Ex, rt_one hk, Nat.one_pow], rt_one hk⟩
end Go.Proofs.YtkgbgmhkbigjhaaDoor
