/- Whole numbers of 2^-s as dyads: their sums, their order, how long they are. Numbers alone. -/
import Derived.Test.YtijhdlkfihjbiaaDoorLgMath
namespace Go.Proofs.YtijhdlkfihjbiaaDoor

/-- 2^-s, in the units of a worth (never reckoned). -/
noncomputable def us (s : Nat) : Nat := Classical.choose (⟨2 ^ sh (-(s : Int)), rfl⟩ : ∃ k : Nat, k = 2 ^ sh (-(s : Int)))
theorem us_eq (s : Nat) : us s = 2 ^ sh (-(s : Int)) := Classical.choose_spec (⟨2 ^ sh (-(s : Int)), rfl⟩ : ∃ k : Nat, k = 2 ^ sh (-(s : Int)))
theorem us_pos (s : Nat) : 0 < us s := by rw [us_eq]; exact Nat.two_pow_pos _
theorem us_ub {s : Nat} (hs : s ≤ 9000) : us s * 2 ^ s = ub := by
  rw [us_eq, ub_eq, ← Nat.pow_add]
  congr 1
  have h1 := sh_held 0
  have h2 := sh_held (-(s : Int))
  rw [held_id (by omega) (by omega)] at h1 h2
  omega
/-- L parts of 2^-s. -/
def Un (s : Nat) (L : Int) (d : Dy) : Prop := Fine d ∧ (d.V = 0 ∨ -(s : Int) ≤ d.e) ∧ dw d.neg d.V d.e = L * (us s : Int)
theorem dw_us (g : Bool) (V s : Nat) : dw g V (-(s : Int)) = (if g then -(V : Int) else (V : Int)) * (us s : Int) := by
  rw [us_eq]
  cases g
  · show ((V * 2 ^ sh (-(s : Int)) : Nat) : Int) = (V : Int) * _
    rw [Int.natCast_mul]
  · show -((V * 2 ^ sh (-(s : Int)) : Nat) : Int) = -(V : Int) * _
    rw [Int.natCast_mul, Int.neg_mul]
theorem mk_low {g : Bool} {V : Nat} {e : Int} {d : Dy} (h : mk g V e = some d) (h1 : -1073741824 ≤ e) (h2 : e ≤ 1073741824) : d.V = 0 ∨ e ≤ d.e := by
  obtain ⟨_, k2, k3⟩ := toldD_fine h
  by_cases h0 : d.V = 0
  · exact Or.inl h0
  · have := (k3 (by rw [← k2]; exact h0)).2
    rw [held_id h1 h2] at this
    exact Or.inr (by omega)
theorem un_mk {g : Bool} {V s : Nat} {d : Dy} (h : mk g V (-(s : Int)) = some d) (hs : s ≤ 9000) : Un s (if g then -(V : Int) else (V : Int)) d := by
  obtain ⟨k1, k2, _, _⟩ := mk_fine h
  exact ⟨k1, mk_low h (by omega) (by omega), by rw [k2, dw_us]⟩
theorem un_zero {s : Nat} {L : Int} {d : Dy} (h : Un s L d) (h0 : d.V = 0) : L = 0 := by
  have h1 := h.2.2
  rw [h0, dw_zero] at h1
  have := us_pos s
  rcases Int.mul_eq_zero.1 h1.symm with h2 | h2
  · exact h2
  · omega
theorem un_sz {s : Nat} {L : Int} {d : Dy} (h : Un s L d) : sz d.V d.e = L.natAbs * us s := by
  have h1 := congrArg Int.natAbs h.2.2
  rw [Int.natAbs_mul, Int.natAbs_natCast] at h1
  rw [← h1]
  unfold dw
  cases d.neg
  · exact (Int.natAbs_natCast _).symm
  · show _ = (-(sz d.V d.e : Int)).natAbs
    rw [Int.natAbs_neg]
    exact (Int.natAbs_natCast _).symm
/-- Where its first bit is. -/
theorem un_top {s : Nat} {L : Int} {d : Dy} (h : Un s L d) (hs : s ≤ 9000) (hL : L.natAbs < 2 ^ (s + 64)) (h0 : d.V ≠ 0) : (blen d.V : Int) + d.e ≤ 64 := by
  have h1 := un_sz h
  have h2 : sz d.V d.e < 2 ^ (64 + sh 0) := by
    rw [h1]
    have h3 : 2 ^ (s + 64) * us s = 2 ^ (64 + sh 0) := by
      rw [Nat.pow_add, Nat.mul_right_comm, Nat.mul_comm (2 ^ s), us_ub hs, ub_eq, Nat.pow_add, Nat.mul_comm]
    rw [← h3]
    exact Nat.mul_lt_mul_of_pos_right hL (us_pos s)
  have h4 := blen_le_iff.2 h2
  have h5 := blen_sz d.e h0
  have h6 := sh_held 0
  rw [held_id (by omega) (by omega)] at h6
  unfold topD at h5
  rw [h.1.held] at h5
  omega
theorem un_short {s : Nat} {L : Int} {d : Dy} (h : Un s L d) (hs : s ≤ 9000) : d.V ≤ L.natAbs := by
  rcases h.2.1 with h0 | h0
  · rw [h0]; exact Nat.zero_le _
  · have h1 := un_sz h
    have h2 : us s ≤ 2 ^ sh d.e := by
      rw [us_eq]
      refine Nat.pow_le_pow_right (by decide) ?_
      have a := sh_held d.e
      have b := sh_held (-(s : Int))
      rw [h.1.held] at a
      rw [held_id (by omega) (by omega)] at b
      omega
    have h3 : d.V * us s ≤ L.natAbs * us s := by
      rw [← h1]
      exact Nat.mul_le_mul_left _ h2
    exact Nat.le_of_mul_le_mul_right h3 (us_pos s)
theorem cmpI_mul {x y : Int} {p : Nat} (hp : 0 < p) : cmpI (x * (p : Int)) (y * (p : Int)) = cmpI x y := by
  have hp' : (0 : Int) < (p : Int) := by omega
  rcases Int.lt_trichotomy x y with h | h | h
  · rw [cmpI_lt h, cmpI_lt (Int.mul_lt_mul_of_pos_right h hp')]
  · rw [h, cmpI_eq rfl, cmpI_eq rfl]
  · rw [cmpI_gt h, cmpI_gt (Int.mul_lt_mul_of_pos_right h hp')]
theorem un_cmp {s : Nat} {L M : Int} {a b : Dy} (ha : Un s L a) (hb : Un s M b) : cmpI (dw a.neg a.V a.e) (dw b.neg b.V b.e) = cmpI L M := by
  rw [ha.2.2, hb.2.2, cmpI_mul (us_pos s)]
theorem un_rat {s : Nat} {L : Int} {d : Dy} (h : Un s L d) (hs : s ≤ 9000) : rat d.neg d.V d.e * ((2 ^ s : Nat) : Rat) = (L : Rat) := by
  have a := rat_key d.neg d.V d.e
  rw [h.2.2] at a
  have u := us_ub hs
  have u' : (us s : Rat) * ((2 ^ s : Nat) : Rat) = (ub : Rat) := by
    rw [← u]
    exact_mod_cast rfl
  have e : ((L * (us s : Int) : Int) : Rat) = (L : Rat) * (us s : Rat) := by exact_mod_cast rfl
  rw [e, ← u'] at a
  refine rat_eq_of (rnat_pos (us_pos s)) ?_
  grind
theorem un_neg {s : Nat} {L : Int} {d b : Dy} (h : Un s L d) (hb : mk (!d.neg) d.V d.e = some b) : Un s (-L) b := by
  obtain ⟨k1, k2, k3, _⟩ := mk_fine hb
  refine ⟨k1, ?_, by rw [k2, dw_neg, h.2.2, Int.neg_mul]⟩
  rcases h.2.1 with h0 | h0
  · exact Or.inl (k3.2 h0)
  · rcases mk_low hb h.1.1 h.1.2.1 with h1 | h1
    · exact Or.inl h1
    · exact Or.inr (by omega)
theorem un_made {s : Nat} {L : Int} {d b : Dy} (h : Un s L d) (hb : mk d.neg d.V d.e = some b) : Un s L b := by
  obtain ⟨k1, k2, k3, _⟩ := mk_fine hb
  refine ⟨k1, ?_, by rw [k2, h.2.2]⟩
  rcases h.2.1 with h0 | h0
  · exact Or.inl (k3.2 h0)
  · rcases mk_low hb h.1.1 h.1.2.1 with h1 | h1
    · exact Or.inl h1
    · exact Or.inr (by omega)
theorem mk_some {g : Bool} {V : Nat} {e : Int} (h1 : -1073741824 ≤ e) (h2 : e ≤ 1073741824) (h : V ≠ 0 → (blen V : Int) + e ≤ 1073741824) : ∃ d, mk g V e = some d := by
  unfold mk toldD
  rw [held_id h1 h2]
  split
  · exact ⟨_, rfl⟩
  · rename_i h0
    have := low_le_blen V
    have := h fun hv => h0 (by rw [hv]; simp)
    rw [if_neg (by omega)]
    exact ⟨_, rfl⟩
/-- .. as a dyad again, with either sign. -/
theorem un_mkd {s : Nat} {L : Int} {d : Dy} (h : Un s L d) (hs : s ≤ 9000) (hL : L.natAbs < 2 ^ (s + 64)) (g : Bool) : ∃ b, mk g d.V d.e = some b := by
  refine mk_some h.1.1 h.1.2.1 fun h0 => ?_
  have := un_top h hs hL h0
  omega
/-- A sum. -/
theorem un_addB {s : Nat} {L M : Int} {a b : Dy} (ha : Un s L a) (hb : Un s M b) (hs : s ≤ 9000) (hL : L.natAbs < 2 ^ (s + 64)) (hM : M.natAbs < 2 ^ (s + 64)) : ∃ d, addB a b = some d ∧ Un s (L + M) d := by
  have key : ∀ d, addB a b = some d → (d.V = 0 ∨ -(s : Int) ≤ d.e) → Un s (L + M) d := fun d h h1 => by
    obtain ⟨k1, k2⟩ := addB_fine ha.1 hb.1 h
    exact ⟨k1, h1, by rw [k2, ha.2.2, hb.2.2, Int.add_mul]⟩
  by_cases ha0 : a.V = 0
  · have e : addB a b = some b := by unfold addB; rw [if_pos ha0]
    exact ⟨b, e, key b e hb.2.1⟩
  by_cases hb0 : b.V = 0
  · have e : addB a b = some a := by unfold addB; rw [if_neg ha0, if_pos hb0]
    exact ⟨a, e, key a e ha.2.1⟩
  have ta := un_top ha hs hL ha0
  have tb := un_top hb hs hM hb0
  have la : -(s : Int) ≤ a.e := by rcases ha.2.1 with h | h; exact absurd h ha0; exact h
  have lb : -(s : Int) ≤ b.e := by rcases hb.2.1 with h | h; exact absurd h hb0; exact h
  obtain ⟨l, hl⟩ : ∃ l, min a.e b.e = l := ⟨_, rfl⟩
  have pa := blen_pos ha0
  have pb := blen_pos hb0
  have fa1 := ha.1.1
  have fb1 := hb.1.1
  have hx : blen (a.V * 2 ^ (a.e - l).toNat) ≤ 9064 := by rw [blen_shl ha0]; omega
  have hy : blen (b.V * 2 ^ (b.e - l).toNat) ≤ 9064 := by rw [blen_shl hb0]; omega
  obtain ⟨x, ex⟩ : ∃ x, a.V * 2 ^ (a.e - l).toNat = x := ⟨_, rfl⟩
  obtain ⟨y, ey⟩ : ∃ y, b.V * 2 ^ (b.e - l).toNat = y := ⟨_, rfl⟩
  have hfar : ¬ 65535 < max ((blen a.V : Int) - 1 + a.e) ((blen b.V : Int) - 1 + b.e) - l := by omega
  have e : addB a b = if a.neg = b.neg then mk a.neg (x + y) l else if x < y then mk b.neg (y - x) l else mk a.neg (x - y) l := by
    unfold addB
    rw [if_neg ha0, if_neg hb0, hl, ex, ey, if_neg hfar]
  rw [ex] at hx
  rw [ey] at hy
  have hl1 : -9000 ≤ l := by omega
  have hl2 : l ≤ 64 := by omega
  have hxy : blen (x + y) ≤ 9065 := by
    obtain ⟨K, hK⟩ : ∃ K, K = 9064 := ⟨_, rfl⟩
    have h1 := blen_le_iff.1 (show blen x ≤ K by omega)
    have h2 := blen_le_iff.1 (show blen y ≤ K by omega)
    have h3 : (2 : Nat) ^ K * 2 = 2 ^ (K + 1) := (Nat.pow_succ ..).symm
    have := blen_le_iff.2 (show x + y < 2 ^ (K + 1) by omega)
    omega
  have some_of : ∀ g z, z ≤ x + y → ∃ d, mk g z l = some d ∧ (d.V = 0 ∨ -(s : Int) ≤ d.e) := fun g z hz => by
    have h4 := blen_mono hz
    obtain ⟨d, hd⟩ := mk_some (g := g) (V := z) (e := l) (by omega) (by omega) (fun _ => by omega)
    refine ⟨d, hd, ?_⟩
    rcases mk_low hd (by omega) (by omega) with h5 | h5
    · exact Or.inl h5
    · exact Or.inr (by omega)
  split at e
  · obtain ⟨d, hd, h1⟩ := some_of a.neg (x + y) (Nat.le_refl _)
    exact ⟨d, e.trans hd, key d (e.trans hd) h1⟩
  · split at e
    · obtain ⟨d, hd, h1⟩ := some_of b.neg (y - x) (by omega)
      exact ⟨d, e.trans hd, key d (e.trans hd) h1⟩
    · obtain ⟨d, hd, h1⟩ := some_of a.neg (x - y) (by omega)
      exact ⟨d, e.trans hd, key d (e.trans hd) h1⟩
/-- .. as Add tells it. -/
theorem un_add {s : Nat} {L M : Int} {a b : Dy} (ha : Un s L a) (hb : Un s M b) (hs : s ≤ 9000) (hL : L.natAbs < 2 ^ (s + 64)) (hM : M.natAbs < 2 ^ (s + 64)) : ∃ d, addO (mk a.neg a.V a.e) (mk b.neg b.V b.e) = some d ∧ Un s (L + M) d := by
  obtain ⟨a', h1⟩ := un_mkd ha hs hL a.neg
  obtain ⟨b', h2⟩ := un_mkd hb hs hM b.neg
  rw [h1, h2]
  exact un_addB (un_made ha h1) (un_made hb h2) hs hL hM
/-- A dyad of one limb. -/
theorem un_one (s n : Nat) : dw false n (-(s : Int)) = (n : Int) * (us s : Int) := by rw [dw_us]; rfl
end Go.Proofs.YtijhdlkfihjbiaaDoor
