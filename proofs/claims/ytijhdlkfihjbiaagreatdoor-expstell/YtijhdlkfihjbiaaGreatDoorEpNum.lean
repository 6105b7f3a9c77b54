/- Whole numbers as a sign and a size: a dyad times 2^s cut down, or up; what the program's Split reckons. Numbers alone. -/
import Derived.Test.YtijhdlkfihjbiaaGreatDoorEpLaw
import Derived.Test.YtijhdlkfihjbiaaGreatDoorK3
import Derived.Test.YtijhdlkfihjbiaaGreatDoorK2
namespace Go.Proofs.YtijhdlkfihjbiaaGreatDoor

def wz (g : Bool) (V : Nat) : Int := if g then -(V : Int) else (V : Int)
theorem wz_abs (g : Bool) (V : Nat) : (wz g V).natAbs = V := by
  unfold wz
  cases g
  · exact Int.natAbs_natCast V
  · show (-(V : Int)).natAbs = V
    rw [Int.natAbs_neg]
    exact Int.natAbs_natCast V
theorem wz_neg {g : Bool} {V : Nat} : decide (wz g V < 0) = (g && decide (V ≠ 0)) := by
  unfold wz
  cases g
  · rw [Bool.false_and]
    exact decide_eq_false (by rw [if_neg (by decide)]; omega)
  · rw [Bool.true_and]
    rw [if_pos rfl]
    by_cases h : V = 0
    · rw [decide_eq_false (by omega), decide_eq_false (by omega)]
    · rw [decide_eq_true (by omega), decide_eq_true h]
/-- V times 2^k without rest, and whether there is one. -/
def mvQ (V : Nat) (k : Int) : Nat := if k < 0 then V / 2 ^ (-k).toNat else V * 2 ^ k.toNat
def mvR (V : Nat) (k : Int) : Bool := if k < 0 then decide (V % 2 ^ (-k).toNat ≠ 0) else false
theorem mvQ_down (V N : Nat) : mvQ V (-(N : Int)) = V / 2 ^ N := by
  unfold mvQ
  rcases Nat.eq_zero_or_pos N with h | h
  · subst h
    rw [if_neg (by decide)]
    simp
  · rw [if_pos (by omega), Int.neg_neg, Int.toNat_natCast]
theorem mvR_down (V N : Nat) : mvR V (-(N : Int)) = decide (V % 2 ^ N ≠ 0) := by
  unfold mvR
  rcases Nat.eq_zero_or_pos N with h | h
  · subst h
    rw [if_neg (by decide)]
    exact (decide_eq_false (by rw [Nat.pow_zero, Nat.mod_one]; exact fun h => h rfl)).symm
  · rw [if_pos (by omega), Int.neg_neg, Int.toNat_natCast]
theorem mvQ_up (V k : Nat) : mvQ V (k : Int) = V * 2 ^ k := by
  unfold mvQ
  rw [if_neg (by omega), Int.toNat_natCast]
theorem mvR_up (V k : Nat) : mvR V (k : Int) = false := by
  unfold mvR
  rw [if_neg (by omega)]
theorem neg_cut (V : Nat) {M : Nat} (hM : 0 < M) : -(V : Int) / (M : Int) = -((V / M + (if V % M ≠ 0 then 1 else 0) : Nat) : Int) := by
  have h1 := Nat.div_add_mod V M
  have h2 := Nat.mod_lt V hM
  have hp : (0 : Int) < (M : Int) := by omega
  obtain ⟨q, hq⟩ : ∃ q, V / M = q := ⟨_, rfl⟩
  obtain ⟨r, hr⟩ : ∃ r, V % M = r := ⟨_, rfl⟩
  rw [hq, hr] at h1
  rw [hr] at h2
  rw [hq, hr]
  have e1 : (V : Int) = (M : Int) * (q : Int) + (r : Int) := by rw [← h1, Int.natCast_add, Int.natCast_mul]
  by_cases h0 : r = 0
  · rw [if_neg (by omega)]
    refine ((Int.ediv_emod_unique hp (r := 0)).2 ⟨?_, by omega, by omega⟩).1
    rw [Nat.add_zero, Int.mul_neg]
    omega
  · rw [if_pos h0]
    refine ((Int.ediv_emod_unique hp (r := (M : Int) - (r : Int))).2 ⟨?_, by omega, by omega⟩).1
    have e2 : (M : Int) * -((q + 1 : Nat) : Int) = -((M : Int) * (q : Int)) - (M : Int) := by
      rw [Int.natCast_add, Int.mul_neg, Int.mul_add]
      omega
    rw [e2]
    omega
theorem at_up {d : Dy} {s k : Nat} (hf : Fine d) (hs : s ≤ 9000) (hk : d.e + (s : Int) = (k : Int)) : dw d.neg d.V d.e = wz d.neg (d.V * 2 ^ k) * (us s : Int) := by
  rw [dw_shift (k := k) (e := -(s : Int)) d.neg (by rw [hf.held, held_id (by omega) (by omega)]; omega), dw_us]
  rfl
theorem at_down {d : Dy} {s N : Nat} (hf : Fine d) (hs : s ≤ 9000) (hk : d.e + (s : Int) = -(N : Int)) : ∃ p : Nat, 0 < p ∧ us s = 2 ^ N * p ∧ dw d.neg d.V d.e = wz d.neg d.V * (p : Int) := by
  refine ⟨2 ^ sh d.e, Nat.two_pow_pos _, ?_, ?_⟩
  · rw [us_eq, sh_add (e := d.e) (f := -(s : Int)) (k := N) (by rw [hf.held, held_id (by omega) (by omega)]; omega), Nat.pow_add, Nat.mul_comm]
  · unfold dw sz wz
    cases d.neg
    · rw [if_neg (by decide), if_neg (by decide), Int.natCast_mul]
    · rw [if_pos rfl, if_pos rfl, Int.natCast_mul, Int.neg_mul]
theorem rest_of (P : Prop) [Decidable P] (g : Bool) : (if (decide P && g) = true then 1 else 0 : Nat) = if g = true then (if P then 1 else 0) else 0 := by
  by_cases h : P
  · rw [decide_eq_true h, Bool.true_and, if_pos h]
  · rw [decide_eq_false h, Bool.false_and, if_neg h, if_neg (by decide)]
    cases g <;> rfl
theorem at_fl {d : Dy} {s : Nat} (hf : Fine d) (hs : s ≤ 9000) : flU s d = wz d.neg (mvQ d.V (d.e + s) + (if mvR d.V (d.e + s) && d.neg then 1 else 0)) := by
  have p0 := us_pos s
  unfold flU
  rcases Int.lt_or_le (d.e + (s : Int)) 0 with h | h
  · obtain ⟨N, hN⟩ : ∃ N : Nat, d.e + (s : Int) = -(N : Int) := ⟨(d.e + (s : Int)).natAbs, by omega⟩
    obtain ⟨p, hp, h1, h2⟩ := at_down hf hs hN
    rw [h1, h2, hN, Int.natCast_mul, Int.mul_ediv_mul_of_pos_left _ _ (by omega : (0 : Int) < (p : Int)), mvQ_down, mvR_down, rest_of]
    unfold wz
    cases d.neg
    · exact (Int.natCast_ediv _ _).symm
    · exact neg_cut _ (Nat.two_pow_pos N)
  · obtain ⟨k, hk⟩ := Int.eq_ofNat_of_zero_le h
    rw [at_up hf hs hk, hk, Int.mul_ediv_cancel _ (by omega), mvQ_up, mvR_up]
    rfl
theorem at_cl {d : Dy} {s : Nat} (hf : Fine d) (hs : s ≤ 9000) : clU s d = wz d.neg (mvQ d.V (d.e + s) + (if mvR d.V (d.e + s) && !d.neg then 1 else 0)) := by
  have p0 := us_pos s
  unfold clU
  rcases Int.lt_or_le (d.e + (s : Int)) 0 with h | h
  · obtain ⟨N, hN⟩ : ∃ N : Nat, d.e + (s : Int) = -(N : Int) := ⟨(d.e + (s : Int)).natAbs, by omega⟩
    obtain ⟨p, hp, h1, h2⟩ := at_down hf hs hN
    rw [h1, h2, hN, Int.natCast_mul, ← Int.neg_mul, Int.mul_ediv_mul_of_pos_left _ _ (by omega : (0 : Int) < (p : Int)), mvQ_down, mvR_down, rest_of]
    unfold wz
    cases d.neg
    · have := neg_cut d.V (Nat.two_pow_pos N)
      show -(-(d.V : Int) / _) = _
      rw [this, Int.neg_neg]
      rfl
    · show -(- -(d.V : Int) / _) = _
      rw [Int.neg_neg, ← Int.natCast_ediv]
      rfl
  · obtain ⟨k, hk⟩ := Int.eq_ofNat_of_zero_le h
    rw [at_up hf hs hk, hk, ← Int.neg_mul, Int.mul_ediv_cancel _ (by omega), Int.neg_neg, mvQ_up, mvR_up]
    rfl
/-- Each end at a scale, in limbs. -/
theorem mid_far2 {d : Dy} {s : Nat} (hf : Fine d) (h : Mid d) (hs : s ≤ 9000) : (clU s d).natAbs ≤ 4096 * 2 ^ s + 2 := by
  have h1 := mid_far hf h hs
  have h2 := cl_fl s d
  have h3 := fl_cl (s := s) (Int.le_refl (dw d.neg d.V d.e))
  omega
theorem upq_eq (a : Nat) {c : Nat} (hc : 0 < c) : upq a c = (a + c - 1) / c := by
  have h1 := Nat.div_add_mod a c
  have h2 := Nat.mod_lt a hc
  obtain ⟨q, hq⟩ : ∃ q, a / c = q := ⟨_, rfl⟩
  obtain ⟨r, hr⟩ : ∃ r, a % c = r := ⟨_, rfl⟩
  unfold upq
  rw [hq, hr] at h1 ⊢
  rw [hr] at h2
  symm
  by_cases h0 : r = 0
  · rw [if_pos h0]
    rw [show a + c - 1 = c * q + (c - 1) by omega, Nat.mul_add_div hc, Nat.div_eq_of_lt (by omega)]
  · rw [if_neg h0]
    rw [show a + c - 1 = c * (q + 1) + (r - 1) by rw [Nat.mul_add]; omega, Nat.mul_add_div hc, Nat.div_eq_of_lt (by omega)]
/-- How often ln 2 has to be taken, by sizes. -/
theorem goes_yes {L : Int} {c d : Nat} (h : 0 ≤ L) : spK L c d = ((L.natAbs / d : Nat) : Int) := by
  unfold spK
  rw [if_pos h, Int.natCast_ediv]
  congr 1
  omega
theorem goes_no {L : Int} {c d : Nat} (h : L < 0) (hc : 0 < c) : spK L c d = -((upq L.natAbs c : Nat) : Int) := by
  unfold spK
  rw [if_neg (by omega), upq_eq _ hc]
/-- What is bare stays (as mk_self, which lies in another text). -/
theorem mk_bareE {g : Bool} {V : Nat} {e : Int} {d : Dy} (h : mk g V e = some d) : mk d.neg d.V d.e = some d := by
  have hf := (mk_fine h).1
  have hO : Odd d := by rw [← mk_is h]; exact nO_odd g V e
  have hs : nO d.neg d.V d.e = d := nO_self hO (by have := hf.1; omega) (by have := hf.2.1; omega)
  rw [mk_nO, hs]
  obtain ⟨g', V', e'⟩ := d
  unfold toldD
  by_cases h0 : V' = 0
  · obtain ⟨h1, h2⟩ := hf.2.2 h0
    simp only at h1 h2 h0 ⊢
    rw [if_pos h0, h1, h2, h0]
  · have h1 : -1073741824 ≤ e' := hf.1
    have h2 : e' ≤ 1073741824 := hf.2.1
    simp only
    rw [if_neg h0, if_neg (by omega)]
/-- A dyad that is made, scaled: what is made at once. -/
theorem mk_scaled {p s : Nat} {k : Int} {g : Bool} {V : Nat} {e : Int} (hs : s ≤ 9000) (hk : k.natAbs ≤ 20000) (hp : p ≠ 0) (hb : blen p ≤ 20000) (h : mk false p (-(s : Int)) = some ⟨g, V, e⟩) :
    g = false ∧ V ≠ 0 ∧ V ≤ p ∧ -9000 ≤ e ∧ e ≤ 20000 ∧ mk g V e = some ⟨g, V, e⟩ ∧ mk false p (k - (s : Int)) = some ⟨g, V, e + k⟩ := by
  have hs' := mk_bareE h
  have hv := (mk_fine h).2.2.2
  have hl := low_le_blen p
  have h0 : p / 2 ^ low p ≠ 0 := fun h' => hp (odd_part_zero.1 h')
  have h1 := h
  unfold mk toldD at h1
  rw [if_neg h0, held_id (by omega) (by omega), if_neg (by omega)] at h1
  obtain ⟨rfl, rfl, rfl⟩ : false = g ∧ p / 2 ^ low p = V ∧ -(s : Int) + (low p : Int) = e := by
    have := Option.some.inj h1
    exact ⟨congrArg Dy.neg this, congrArg Dy.V this, congrArg Dy.e this⟩
  refine ⟨rfl, h0, hv, by omega, by omega, hs', ?_⟩
  unfold mk toldD
  rw [if_neg h0, held_id (by omega) (by omega), if_neg (by omega)]
  congr 2
  omega
/-- One less another, by signs and sizes. -/
theorem less_apart {Z Y : Int} (h : decide (Z < 0) ≠ decide (Y < 0)) : wz (decide (Z < 0)) (Z.natAbs + Y.natAbs) = Z - Y := by
  unfold wz
  by_cases h1 : Z < 0
  · have h2 : ¬ Y < 0 := fun h2 => h (by rw [decide_eq_true h1, decide_eq_true h2])
    rw [decide_eq_true h1, if_pos rfl]
    omega
  · have h2 : Y < 0 := Classical.byContradiction fun h2 => h (by rw [decide_eq_false h1, decide_eq_false h2])
    rw [decide_eq_false h1, if_neg (by decide)]
    omega
theorem less_turned {Z Y : Int} (h : decide (Z < 0) = decide (Y < 0)) (hl : Z.natAbs < Y.natAbs) : wz (!decide (Z < 0)) (Y.natAbs - Z.natAbs) = Z - Y := by
  unfold wz
  by_cases h1 : Z < 0
  · have h2 : Y < 0 := of_decide_eq_true (h ▸ decide_eq_true h1)
    rw [decide_eq_true h1, Bool.not_true, if_neg (by decide)]
    omega
  · have h2 : ¬ Y < 0 := of_decide_eq_false (h ▸ decide_eq_false h1)
    rw [decide_eq_false h1, Bool.not_false, if_pos rfl]
    omega
theorem less_same {Z Y : Int} (h : decide (Z < 0) = decide (Y < 0)) (hl : ¬ Z.natAbs < Y.natAbs) : wz (decide (Z < 0)) (Z.natAbs - Y.natAbs) = Z - Y := by
  unfold wz
  by_cases h1 : Z < 0
  · have h2 : Y < 0 := of_decide_eq_true (h ▸ decide_eq_true h1)
    rw [decide_eq_true h1, if_pos rfl]
    omega
  · have h2 : ¬ Y < 0 := of_decide_eq_false (h ▸ decide_eq_false h1)
    rw [decide_eq_false h1, if_neg (by decide)]
    omega
theorem times_sg (a : Nat) (k : Int) : wz (decide (k < 0)) (a * k.natAbs) = k * (a : Int) := by
  unfold wz
  by_cases h1 : k < 0
  · obtain ⟨n, rfl⟩ : ∃ n : Nat, k = -(n : Int) := ⟨k.natAbs, by omega⟩
    rw [decide_eq_true h1, if_pos rfl, Int.neg_mul, Int.natAbs_neg, Int.natAbs_natCast, Int.natCast_mul, Int.mul_comm]
  · obtain ⟨n, rfl⟩ : ∃ n : Nat, k = (n : Int) := ⟨k.natAbs, by omega⟩
    rw [decide_eq_false h1, if_neg (by decide), Int.natAbs_natCast, Int.natCast_mul, Int.mul_comm]
end Go.Proofs.YtijhdlkfihjbiaaGreatDoor
