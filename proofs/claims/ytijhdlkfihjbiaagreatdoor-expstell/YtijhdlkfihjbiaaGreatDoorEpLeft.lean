/- What is left of a number when ln 2 is taken off so often, as the document does it: numbers alone. -/
import Derived.Test.YtijhdlkfihjbiaaGreatDoorEpTell
namespace Go.Proofs.YtijhdlkfihjbiaaGreatDoor

def LeftP (n : Dy) (T m : Nat) (k : Int) (l : Dy) : Prop := dw l.neg l.V l.e = dw n.neg n.V n.e - k * ((T * us m : Nat) : Int) ∧ -20000 ≤ l.e ∧ l.e ≤ 10 ∧ sz l.V l.e ≤ 1024 * ub
theorem dw_size (g : Bool) (V : Nat) (e : Int) : (dw g V e).natAbs = sz V e := by
  unfold dw
  cases g
  · exact Int.natAbs_natCast _
  · show (-(sz V e : Int)).natAbs = _
    rw [Int.natAbs_neg]
    exact Int.natAbs_natCast _
theorem left_len {n l : Dy} {T m : Nat} {k : Int} (h : LeftP n T m k l) : blen l.V ≤ 20011 := by
  by_cases h0 : l.V = 0
  · rw [h0]; decide
  · have h5 := blen_sz l.e h0
    have h6 := sh_held 0
    rw [held_id (by omega) (by omega)] at h6
    have h7 := h.2.1
    have h8 := h.2.2.1
    unfold topD at h5
    rw [held_id (by omega) (by omega)] at h5
    have h9 : sz l.V l.e < 2 ^ (11 + sh 0) := by
      have h10 : 2 ^ (11 + sh 0) = 2048 * ub := by rw [Nat.pow_add, ← ub_eq]
      rw [h10]
      have : 0 < ub := by rw [ub_eq]; exact Nat.two_pow_pos _
      have := h.2.2.2
      omega
    have := blen_le_iff.2 h9
    omega
theorem sgD_dw (g : Bool) (V : Nat) (e : Int) : sgD g V < 0 ↔ dw g V e < 0 := by
  rcases sgD_spec g V e with ⟨k1, _, k3⟩ | ⟨k1, _, k3, k4⟩ | ⟨k1, _, k3, k4⟩ <;> omega
theorem two_us (T m : Nat) : dw false T (-(m : Int)) = ((T * us m : Nat) : Int) ∧ dw true T (-(m : Int)) = -((T * us m : Nat) : Int) := by
  rw [dw_us, dw_us, Int.natCast_mul]
  exact ⟨rfl, Int.neg_mul ..⟩
theorem left_start {n : Dy} (T m : Nat) (h1 : -20000 ≤ n.e) (h2 : n.e ≤ 10) (h3 : sz n.V n.e ≤ 1024 * ub) : LeftP n T m 0 n := ⟨by rw [Int.zero_mul]; omega, h1, h2, h3⟩
theorem tus_ub {T m : Nat} (hT : T ≤ 2 ^ m) (hm : m ≤ 9000) : T * us m ≤ ub := by
  rw [← us_ub hm, Nat.mul_comm (us m)]
  exact Nat.mul_le_mul_right _ hT
theorem left_up {n l o : Dy} {T m : Nat} {k : Int} (h : LeftP n T m k l) (hl : dw l.neg l.V l.e < 0) (hT : T ≤ 2 ^ m) (hm : m ≤ 700) (ho : dw o.neg o.V o.e = dw l.neg l.V l.e + dw false T (-(m : Int))) (he : o.e = l.e ∨ o.e = -(m : Int)) :
    LeftP n T m (k - 1) o ∧ dw o.neg o.V o.e < ((T * us m : Nat) : Int) := by
  have t := tus_ub hT (show m ≤ 9000 by omega)
  have a1 := dw_size o.neg o.V o.e
  have a2 := dw_size l.neg l.V l.e
  obtain ⟨h1, h2, h3, h4⟩ := h
  rw [(two_us T m).1] at ho
  refine ⟨⟨?_, by omega, by omega, by omega⟩, by omega⟩
  rw [ho, h1, Int.sub_mul, Int.one_mul]
  omega
theorem left_down {n l o : Dy} {T m : Nat} {k : Int} (h : LeftP n T m k l) (hl : ((T * us m : Nat) : Int) < dw l.neg l.V l.e) (hm : m ≤ 700) (ho : dw o.neg o.V o.e = dw l.neg l.V l.e + dw true T (-(m : Int))) (he : o.e = l.e ∨ o.e = -(m : Int)) :
    LeftP n T m (k + 1) o ∧ 0 < dw o.neg o.V o.e := by
  have a1 := dw_size o.neg o.V o.e
  have a2 := dw_size l.neg l.V l.e
  obtain ⟨h1, h2, h3, h4⟩ := h
  rw [(two_us T m).2] at ho
  refine ⟨⟨?_, by omega, by omega, by omega⟩, by omega⟩
  rw [ho, h1, Int.add_mul, Int.one_mul]
  omega
theorem ub_tus {T m : Nat} (hT : 2 ^ m ≤ 3 * T) (hm : m ≤ 9000) : ub ≤ 3 * (T * us m) := by
  rw [← us_ub hm, Nat.mul_comm (us m), ← Nat.mul_assoc]
  exact Nat.mul_le_mul_right _ hT
theorem times_le {k : Int} {N S : Nat} (hS : 0 < S) (h : k * (S : Int) ≤ ((N * S : Nat) : Int)) : k ≤ (N : Int) := by
  rw [Int.natCast_mul] at h
  exact Int.le_of_mul_le_mul_right h (by omega)
theorem left_low {n l : Dy} {T m : Nat} {k : Int} (h : LeftP n T m k l) (hn : sz n.V n.e ≤ 1024 * ub) (hl : dw l.neg l.V l.e < 0) (hT : 2 ^ m ≤ 3 * T) (hm : m ≤ 9000) : -3072 ≤ k := by
  have t := ub_tus hT hm
  have u : 0 < ub := by rw [ub_eq]; exact Nat.two_pow_pos _
  have a2 := dw_size n.neg n.V n.e
  have h1 := h.1
  obtain ⟨S, hS⟩ : ∃ S, T * us m = S := ⟨_, rfl⟩
  rw [hS] at h1 t
  have e : -k * (S : Int) = -(k * (S : Int)) := Int.neg_mul ..
  have : -k ≤ ((3072 : Nat) : Int) := times_le (S := S) (by omega) (by rw [e]; omega)
  omega
theorem left_high {n l : Dy} {T m : Nat} {k : Int} (h : LeftP n T m k l) (hn : sz n.V n.e ≤ 1024 * ub) (hl : 0 ≤ dw l.neg l.V l.e) (hT : 2 ^ m ≤ 3 * T) (hm : m ≤ 9000) : k ≤ 3072 := by
  have t := ub_tus hT hm
  have u : 0 < ub := by rw [ub_eq]; exact Nat.two_pow_pos _
  have a2 := dw_size n.neg n.V n.e
  have h1 := h.1
  obtain ⟨S, hS⟩ : ∃ S, T * us m = S := ⟨_, rfl⟩
  rw [hS] at h1 t
  have : k ≤ ((3072 : Nat) : Int) := times_le (S := S) (by omega) (by omega)
  omega
/-- As whole parts. -/
theorem left_parts {l : Dy} {m : Nat} (h0 : 0 ≤ dw l.neg l.V l.e) (h1 : -20000 ≤ l.e) (h2 : l.e ≤ 10) (hm : m ≤ 700) :
    (dw l.neg l.V l.e / (us m : Int)).toNat = if 0 ≤ l.e + (m : Int) then l.V * 2 ^ (l.e + (m : Int)).toNat else l.V / 2 ^ (-l.e - (m : Int)).toNat := by
  have a := dw_size l.neg l.V l.e
  have e : dw l.neg l.V l.e = (sz l.V l.e : Int) := by omega
  rw [e, ← Int.natCast_ediv, Int.toNat_natCast]
  have u := us_pos m
  have s1 := sh_held l.e
  have s2 := sh_held (-(m : Int))
  rw [held_id (by omega) (by omega)] at s1 s2
  by_cases h : 0 ≤ l.e + (m : Int)
  · rw [if_pos h]
    have : sz l.V l.e = l.V * 2 ^ (l.e + (m : Int)).toNat * us m := by
      unfold sz
      rw [us_eq, Nat.mul_assoc, ← Nat.pow_add]
      congr 2
      omega
    rw [this]
    exact Nat.mul_div_cancel _ u
  · rw [if_neg h]
    have e2 : us m = 2 ^ (-l.e - (m : Int)).toNat * 2 ^ sh l.e := by
      rw [us_eq, ← Nat.pow_add]
      congr 1
      omega
    rw [e2]
    unfold sz
    exact Nat.mul_div_mul_right _ _ (Nat.two_pow_pos _)
theorem left_le {D : Int} {T m : Nat} (h : D ≤ ((T * us m : Nat) : Int)) : (D / (us m : Int)).toNat ≤ T := by
  have u := us_pos m
  have h1 := Int.ediv_mul_le D (show (us m : Int) ≠ 0 by omega)
  rw [Int.natCast_mul] at h
  have h2 := Int.le_of_mul_le_mul_right (Int.le_trans h1 h) (show (0 : Int) < (us m : Int) by omega)
  omega
end Go.Proofs.YtijhdlkfihjbiaaGreatDoor
