/- Plain mathematics of quotients: half a digit of 128 bits by 64, a digit of a long quotient. No program is named here. -/
import Derived.Test.YtkgbgmhkbigjhaaDoorPMath
namespace Go.Proofs.YtkgbgmhkbigjhaaDoor

/-- The test of a guessed half digit. -/
theorem half_le {q r u v y1 y0 : Nat} (h : q * y1 + r = u) : q * (y1 * 4294967296 + y0) ≤ u * 4294967296 + v ↔ q * y0 ≤ 4294967296 * r + v := by
  have e : q * (y1 * 4294967296 + y0) = q * y1 * 4294967296 + q * y0 := by rw [Nat.mul_add, Nat.mul_assoc]
  rw [e]
  generalize q * y1 = P at h ⊢
  generalize q * y0 = S
  omega
theorem half_big {q u v Y : Nat} (hq : 4294967296 ≤ q) (hu : u < Y) (hv : v < 4294967296) : u * 4294967296 + v < q * Y := by
  have h1 : 4294967296 * Y ≤ q * Y := Nat.mul_le_mul_right _ hq
  omega
theorem half_break {q r u v y1 y0 : Nat} (h : q * y1 + r = u) (hr : 4294967296 ≤ r) (hu : u < y1 * 4294967296 + y0) (hy : y0 < 4294967296) : q * y0 ≤ 4294967296 * r + v := by
  have h1 : q < 4294967296 := by
    rcases Nat.lt_or_ge q 4294967296 with h' | h'
    · exact h'
    · have : 4294967296 * y1 ≤ q * y1 := Nat.mul_le_mul_right _ h'
      omega
  have h2 : q * y0 ≤ 4294967296 * 4294967296 := Nat.mul_le_mul (by omega) (by omega)
  omega
/-- What is not too great is the quotient. -/
theorem quot_eq {q N Y : Nat} (hle : q * Y ≤ N) (hge : N / Y ≤ q) (hY : 0 < Y) : q = N / Y := by
  have := (Nat.le_div_iff_mul_le hY).2 hle
  omega
theorem quot_less {q N Y : Nat} (h : N < q * Y) (hY : 0 < Y) : N / Y < q := (Nat.div_lt_iff_lt_mul hY).2 h

/-- The divisor with its top bit set, and what is divided, moved likewise. -/
theorem norm_parts {hi lo y s : Nat} (hs : s + blen y = 64) (hy : y ≠ 0) (hh : hi < y) (hl : lo < 18446744073709551616) :
    y * 2 ^ s < 18446744073709551616 ∧ 9223372036854775808 ≤ y * 2 ^ s ∧ hi * 2 ^ s < 18446744073709551616 ∧ lo / 2 ^ (64 - s) < 2 ^ s ∧ hi * 2 ^ s + lo / 2 ^ (64 - s) < y * 2 ^ s ∧
    (hi * 18446744073709551616 + lo) * 2 ^ s = (hi * 2 ^ s + lo / 2 ^ (64 - s)) * 18446744073709551616 + lo * 2 ^ s % 18446744073709551616 := by
  have hb1 := blen_pos hy
  have h64 : (18446744073709551616 : Nat) = 2 ^ s * 2 ^ (64 - s) := by rw [← Nat.pow_add, show s + (64 - s) = 64 from by omega]
  have hp := Nat.pow_pos (n := s) (show 0 < 2 by decide)
  have h1 : y * 2 ^ s < 18446744073709551616 := by
    have := Nat.mul_lt_mul_of_pos_right (lt_blen y) hp
    rw [← Nat.pow_add, show blen y + s = 64 from by omega] at this
    exact this
  have h2 : 9223372036854775808 ≤ y * 2 ^ s := by
    have := Nat.mul_le_mul_right (2 ^ s) (blen_le hy)
    rw [← Nat.pow_add, show blen y - 1 + s = 63 from by omega] at this
    exact this
  have h3 : hi * 2 ^ s + 2 ^ s ≤ y * 2 ^ s := by
    have := Nat.mul_le_mul_right (2 ^ s) hh
    rw [Nat.succ_mul] at this
    exact this
  have h4 : lo / 2 ^ (64 - s) < 2 ^ s := by
    rw [Nat.div_lt_iff_lt_mul (Nat.pow_pos (by decide)), ← h64]; exact hl
  refine ⟨h1, h2, by omega, h4, by omega, ?_⟩
  have h5 : lo * 2 ^ s = lo / 2 ^ (64 - s) * 18446744073709551616 + lo * 2 ^ s % 18446744073709551616 := by
    have e := Nat.div_add_mod (lo * 2 ^ s) 18446744073709551616
    have e2 : lo * 2 ^ s / 18446744073709551616 = lo / 2 ^ (64 - s) := by
      rw [h64, Nat.mul_comm lo, Nat.mul_div_mul_left _ _ hp]
    rw [e2] at e
    omega
  rw [Nat.add_mul, Nat.add_mul, Nat.mul_right_comm]
  omega
/-- Both half digits together (T: 2 to the shift). -/
theorem halves_x {N X L un1 un0 r1 r0 P1 P0 : Nat} (hN : N = X * 4294967296 + L) (hL : L = un1 * 4294967296 + un0) (h1 : X + un1 = P1 + r1) (h0 : r1 * 4294967296 + un0 = P0 + r0) : N = P1 * 4294967296 + P0 + r0 := by
  rw [hN, hL, ← Nat.add_assoc, ← Nat.add_mul, h1, Nat.add_mul, Nat.add_assoc, h0, ← Nat.add_assoc]
theorem halves_e {N u L un1 un0 r1 r0 P1 P0 : Nat} (hN : N = u * 18446744073709551616 + L) (hL : L = un1 * 4294967296 + un0) (h1 : u * 4294967296 + un1 = P1 + r1) (h0 : r1 * 4294967296 + un0 = P0 + r0) : N = P1 * 4294967296 + P0 + r0 :=
  halves_x (X := u * 4294967296) (by rw [hN, Nat.mul_assoc]) hL h1 h0
theorem halves {U y T Y u L un1 un0 q1 r1 q0 r0 q r : Nat} (hp : 0 < T) (hY : Y = y * T) (hN : U * T = u * 18446744073709551616 + L) (hL : L = un1 * 4294967296 + un0) (h1 : u * 4294967296 + un1 = q1 * Y + r1) (h0 : r1 * 4294967296 + un0 = q0 * Y + r0) (hr0 : r0 < Y)
    (hq : U = q * y + r) (hr : r < y) : q1 * 4294967296 + q0 = q ∧ r0 / T = r := by
  have e1 : U * T = (q1 * 4294967296 + q0) * Y + r0 := by
    rw [halves_e hN hL h1 h0, Nat.add_mul, Nat.mul_right_comm q1]
  have e2 : U * T = q * Y + r * T := by rw [hq, hY, Nat.add_mul, Nat.mul_assoc]
  have hr2 : r * T < Y := by rw [hY]; exact Nat.mul_lt_mul_of_pos_right hr hp
  have hY0 : 0 < Y := Nat.lt_of_le_of_lt (Nat.zero_le _) hr0
  have d1 : U * T / Y = q1 * 4294967296 + q0 := by
    rw [e1, Nat.add_comm, Nat.add_mul_div_right _ _ hY0, Nat.div_eq_of_lt hr0, Nat.zero_add]
  have d2 : U * T / Y = q := by
    rw [e2, Nat.add_comm, Nat.add_mul_div_right _ _ hY0, Nat.div_eq_of_lt hr2, Nat.zero_add]
  have d3 : q1 * 4294967296 + q0 = q := d1.symm.trans d2
  refine ⟨d3, ?_⟩
  rw [d3, e2] at e1
  have : r0 = r * T := (Nat.add_left_cancel e1).symm
  rw [this, Nat.mul_div_cancel _ hp]

/-- The guess by the top limbs is not too small. -/
theorem guess_ge {lo hi P v W V : Nat} (hW : W = lo + P * hi) (hlo : lo < P) (hV : P * v ≤ V) (hv : 0 < v) : W / V ≤ hi / v := by
  have hP : 0 < P := by omega
  have hV0 : 0 < V := Nat.lt_of_lt_of_le (Nat.mul_pos hP hv) hV
  rw [Nat.le_div_iff_mul_le hv]
  have h1 := Nat.div_mul_le_self W V
  have h2 : W / V * (P * v) ≤ W := Nat.le_trans (Nat.mul_le_mul_left _ hV) h1
  have e : W / V * (P * v) = P * (W / V * v) := by rw [Nat.mul_left_comm]
  rw [e] at h2
  have h3 : P * (W / V * v) < P * (hi + 1) := by rw [Nat.mul_add, Nat.mul_one]; omega
  have := Nat.lt_of_mul_lt_mul_left h3
  omega
/-- One limb of a multiple taken away. -/
theorem take_step {x N h l ow s1 t1 y s2 t2 k Z U T V : Nat} (hp : l + 18446744073709551616 * h = x * N) (h1 : s1 + 18446744073709551616 * t1 = l + ow + 0) (h2 : s2 + s1 + 0 = y + 18446744073709551616 * t2)
    (hset : U + pw k * y = Z + pw k * s2) (hE : Z + N * T = V + pw k * ow) : U + N * (T + pw k * x) = V + pw (k + 1) * (h + t1 + t2) := by
  have e : pw (k + 1) * (h + t1 + t2) = pw k * (18446744073709551616 * (h + t1 + t2)) := by rw [pw_succ, Nat.mul_comm 18446744073709551616, Nat.mul_assoc]
  have e2 : pw k * (s2 + x * N + ow) = pw k * (y + 18446744073709551616 * (h + t1 + t2)) := by congr 1; omega
  rw [Nat.mul_add, Nat.mul_add, Nat.mul_add (pw k) y] at e2
  have e3 : N * (T + pw k * x) = N * T + pw k * (x * N) := by rw [Nat.mul_add, Nat.mul_left_comm, Nat.mul_comm N x]
  rw [e, e3]
  omega
/-- The last limb of it. -/
theorem take_last {ow y s t k Z U T V : Nat} (h2 : s + ow + 0 = y + 18446744073709551616 * t) (hset : U + pw k * y = Z + pw k * s) (hE : Z + T = V + pw k * ow) : U + T = V + pw (k + 1) * t := by
  have e : pw (k + 1) * t = pw k * (18446744073709551616 * t) := by rw [pw_succ, Nat.mul_comm 18446744073709551616, Nat.mul_assoc]
  have e2 : pw k * (s + ow) = pw k * (y + 18446744073709551616 * t) := by congr 1
  rw [Nat.mul_add, Nat.mul_add] at e2
  omega
/-- What is owed fits. -/
theorem owed_lt {x N h l ow s1 t1 y s2 t2 : Nat} (hx : x < 18446744073709551616) (hN : N < 18446744073709551616) (how : ow < 18446744073709551616) (hp : l + 18446744073709551616 * h = x * N) (h1 : s1 + 18446744073709551616 * t1 = l + ow + 0) (h2 : s2 + s1 + 0 = y + 18446744073709551616 * t2) (hs2 : s2 < 18446744073709551616) :
    h + t1 < 18446744073709551616 ∧ h + t1 + t2 < 18446744073709551616 := by
  have h3 : x * N ≤ 18446744073709551615 * 18446744073709551615 := Nat.mul_le_mul (by omega) (by omega)
  generalize x * N = p at hp h3
  omega
end Go.Proofs.YtkgbgmhkbigjhaaDoor
