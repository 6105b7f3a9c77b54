/- What Exp tells of one number against the document's own, 80 bits further: numbers alone. -/
import Derived.Test.YtijhdlkfihjbiaaGreatDoorEpLaw
import Derived.Test.YtijhdlkfihjbiaaGreatDoorK6
namespace Go.Proofs.YtijhdlkfihjbiaaGreatDoor

/-- ln 2 in parts of 2^-m, as the document reckons it. -/
def docT (m : Nat) : Nat := dA (2 ^ m) 1 3 (m / 3 + 3) * 2
theorem docT_at {m : Nat} (hm : 3 ≤ m) : (∀ x : Rat, ((2 ^ m : Nat) : Rat) * x = (docT m : Rat) → LnGe 2 x) ∧ ∀ x : Rat, ((2 ^ m : Nat) : Rat) * x = (docT m : Rat) + 16 → LnLe 2 x := by
  have P8 : 8 ≤ 2 ^ m := by
    have : 2 ^ 3 ≤ 2 ^ m := Nat.pow_le_pow_right (by decide) hm
    omega
  obtain ⟨a, b⟩ := ln2_of_dA (P := 2 ^ m) (c := m / 3 + 3) P8 (at_tail (by grind) (by grind) m)
  have e : (docT m : Rat) = 2 * (dA (2 ^ m) 1 3 (m / 3 + 3) : Rat) := by
    have : ((dA (2 ^ m) 1 3 (m / 3 + 3) * 2 : Nat) : Rat) = (dA (2 ^ m) 1 3 (m / 3 + 3) : Rat) * 2 := by exact_mod_cast rfl
    show ((dA (2 ^ m) 1 3 (m / 3 + 3) * 2 : Nat) : Rat) = _
    rw [this]
    grind
  rw [e]
  exact ⟨a, b⟩
theorem ln2_low : LnGe 2 (1 / 2) := ep_hi (by grind) (fun N => by
  have := eS_little (h := 1 / 2) (by grind) (by grind) N
  grind)
theorem ln2_high : LnLe 2 (3 / 4) := ep_lo (c := 2) (by grind) (by grind) (by
  show (2 : Rat) ≤ ge_ (3 / 4) 2 1
  simp only [ge_]
  have e1 : ((1 : Nat) : Rat) = 1 := by exact_mod_cast rfl
  have e2 : ((2 : Nat) : Rat) = 2 := by exact_mod_cast rfl
  have e3 : ((1 + 1 : Nat) : Rat) = 2 := by exact_mod_cast rfl
  grind)
theorem docT_bd {m : Nat} (hm : 3 ≤ m) : 4 * docT m ≤ 3 * 2 ^ m ∧ 2 ^ m ≤ 2 * docT m + 32 := by
  obtain ⟨h1, h2⟩ := docT_at hm
  have p0 := rnat_pos (Nat.two_pow_pos m)
  obtain ⟨i, i0, hi⟩ := inv_of p0
  have key : ∀ z : Rat, ((2 ^ m : Nat) : Rat) * (i * z) = z := fun z => by
    have : ((2 ^ m : Nat) : Rat) * (i * z) = (((2 ^ m : Nat) : Rat) * i) * z := by grind
    rw [this, hi]; grind
  have o1 := ln_order (X := 2) (by grind) Rat.le_refl (h1 _ (key _)) ln2_high
  have o2 := ln_order (X := 2) (by grind) Rat.le_refl ln2_low (h2 _ (key _))
  have m1 := rmul_le o1 (Rat.le_of_lt p0)
  have m2 := rmul_le o2 (Rat.le_of_lt p0)
  rw [key] at m1 m2
  refine ⟨cast_le ?_, cast_le ?_⟩
  · have q1 : ((4 * docT m : Nat) : Rat) = 4 * (docT m : Rat) := by exact_mod_cast rfl
    have q2 : ((3 * 2 ^ m : Nat) : Rat) = 3 * ((2 ^ m : Nat) : Rat) := by exact_mod_cast rfl
    rw [q1, q2]
    grind
  · have q1 : ((2 * docT m + 32 : Nat) : Rat) = 2 * (docT m : Rat) + 32 := by exact_mod_cast rfl
    rw [q1]
    grind
/-- The document's exp of n: ln 2 taken off k times, Z what it reckons of what is left. -/
def DocE (n : Dy) (m : Nat) (k : Int) (Z : Nat) : Prop := ∃ (lw : Int) (K : Nat), 2 ^ m ≤ fac K ∧ lw = dw n.neg n.V n.e - k * ((docT m * us m : Nat) : Int) ∧ 0 ≤ lw ∧ lw ≤ ((docT m * us m : Nat) : Int) ∧ Z = de (2 ^ m) (lw / (us m : Int)).toNat K 1
theorem de_least {P a : Nat} : ∀ c n, P ≤ de P a c n := fun c n => by
  cases c with
  | zero => exact Nat.le_refl _
  | succ c => rw [de]; exact Nat.le_add_right _ _
theorem tell_ep {n : Dy} {s m : Nat} {k kk : Int} {Z : Nat} {X Y : Dy} (hs : 8 ≤ s) (hs9 : s ≤ 8900) (hm : m = s + 80) (hf : Fine n) (hn : sz n.V n.e ≤ 1024 * ub) (hM : Mid n) (h : EpV s n n kk X Y) (hd : DocE n m k Z) (t : Int) (ht : t = (blen Z : Int) - 1 + (k - (m : Int))) :
    dw X.neg X.V X.e ≤ dw false Z (k - (m : Int)) + dw false 1099511627776 (t - (m : Int)) ∧ dw false Z (k - (m : Int)) + dw true 1099511627776 (t - (m : Int)) ≤ dw Y.neg Y.V Y.e ∧ k.natAbs ≤ 3073 ∧ k ≤ t ∧ t ≤ k + 1 := by
  obtain ⟨lw, K, hK, hlw, l0, l1, hZ⟩ := hd
  have up := us_pos m
  have uu := us_ub (s := m) (by omega)
  obtain ⟨tb1, tb2⟩ := docT_bd (m := m) (by omega)
  obtain ⟨t1, t2⟩ := docT_at (m := m) (by omega)
  have hP : 2 ^ 80 ≤ 2 ^ m := Nat.pow_le_pow_right (by decide) (by omega)
  have e80 : (2 : Nat) ^ 80 = 1208925819614629174706176 := rfl
  rw [e80] at hP
  have p0 := rnat_pos (Nat.two_pow_pos m)
  obtain ⟨T, hT⟩ : ∃ T, docT m = T := ⟨_, rfl⟩
  rw [hT] at hlw l1 tb1 tb2 t1 t2
  -- how often
  have hkb : k.natAbs ≤ 3073 := by
    have h4 : (dw n.neg n.V n.e).natAbs = sz n.V n.e := by
      unfold dw
      cases n.neg
      · exact Int.natAbs_natCast _
      · show (-(sz n.V n.e : Int)).natAbs = _
        rw [Int.natAbs_neg]
        exact Int.natAbs_natCast _
    have h5 : (k * ((T * us m : Nat) : Int)).natAbs ≤ 1024 * ub + T * us m := by omega
    rw [Int.natAbs_mul, Int.natAbs_natCast, ← uu, Nat.mul_comm (us m), ← Nat.mul_assoc, ← Nat.mul_assoc, ← Nat.add_mul] at h5
    have h6 := Nat.le_of_mul_le_mul_right h5 up
    have h7 : 1024 * 2 ^ m ≤ 1024 * (3 * T) := Nat.mul_le_mul_left _ (by omega)
    have h8 : k.natAbs * T ≤ 3073 * T := by omega
    exact Nat.le_of_mul_le_mul_right h8 (by omega)
  -- the rest
  have lq1 := Int.ediv_mul_le lw (show (us m : Int) ≠ 0 by omega)
  have lq2 := Int.lt_ediv_add_one_mul_self lw (show (0 : Int) < (us m : Int) by omega)
  have lq0 : 0 ≤ lw / (us m : Int) := Int.ediv_nonneg l0 (by omega)
  obtain ⟨M, hMq⟩ := Int.eq_ofNat_of_zero_le lq0
  rw [hMq] at lq1 lq2 hZ
  have eM : ((M : Int)).toNat = M := Int.toNat_natCast M
  rw [eM] at hZ
  have hMT : M ≤ T := by
    have : (M : Int) * (us m : Int) ≤ ((T * us m : Nat) : Int) := Int.le_trans lq1 l1
    rw [Int.natCast_mul] at this
    have := Int.le_of_mul_le_mul_right this (by omega)
    omega
  have hMP : M ≤ 2 ^ m := by omega
  obtain ⟨x, hx, x0, x1⟩ := ex_frac M m hMP
  obtain ⟨z1, z2⟩ := de_spec (P := 2 ^ m) (a := M) (c := K) (Nat.two_pow_pos m) hx.symm x0 x1 (ex_tail x0 x1 hK)
  rw [← hZ] at z1 z2
  have zl : 2 ^ m ≤ Z := by rw [hZ]; exact de_least K 1
  have zh : Z ≤ 3 * 2 ^ m := by rw [hZ]; exact de_bd1 (Nat.two_pow_pos m) hMP K 1 (Nat.le_refl 1)
  have zb1 : m < blen Z := by
    refine Classical.byContradiction fun h9 => ?_
    have := blen_le_iff.1 (show blen Z ≤ m by omega)
    omega
  have zb2 : blen Z ≤ m + 2 := by
    refine blen_le_iff.2 ?_
    rw [Nat.pow_succ, Nat.pow_succ]
    have := Nat.two_pow_pos m
    omega
  have hkt : k ≤ t ∧ t ≤ k + 1 := by omega
  -- in fractions
  have eu : ((us m : Nat) : Rat) * ((2 ^ m : Nat) : Rat) = (ub : Rat) := by rw [← uu]; exact_mod_cast rfl
  have u0 := rnat_pos up
  obtain ⟨i, i0, hi⟩ := inv_of p0
  have key : ∀ z : Rat, ((2 ^ m : Nat) : Rat) * (i * z) = z := fun z => by
    have : ((2 ^ m : Nat) : Rat) * (i * z) = (((2 ^ m : Nat) : Rat) * i) * z := by grind
    rw [this, hi]; grind
  obtain ⟨v, hv⟩ : ∃ v : Rat, ((2 ^ m : Nat) : Rat) * v = (T : Rat) := ⟨_, key _⟩
  obtain ⟨l, hl⟩ : ∃ l : Rat, l = rat n.neg n.V n.e - (k : Rat) * v := ⟨_, rfl⟩
  have hlu : l * (ub : Rat) = ((lw : Int) : Rat) := by
    have a := rat_key n.neg n.V n.e
    have c1 : ((lw : Int) : Rat) = ((dw n.neg n.V n.e : Int) : Rat) - (k : Rat) * ((T : Rat) * (us m : Rat)) := by
      have h9 : dw n.neg n.V n.e = lw + k * ((T * us m : Nat) : Int) := by omega
      have : ((lw + k * ((T * us m : Nat) : Int) : Int) : Rat) = (lw : Rat) + (k : Rat) * ((T : Rat) * (us m : Rat)) := by exact_mod_cast rfl
      rw [h9, this]
      grind
    rw [c1, ← a, hl, ← eu, ← hv]
    grind
  have hlP : ∀ z : Int, ((z * (us m : Int) : Int) : Rat) = (us m : Rat) * (z : Rat) := fun z => by
    have : ((z * (us m : Int) : Int) : Rat) = (z : Rat) * (us m : Rat) := by exact_mod_cast rfl
    rw [this]; grind
  have hl1 : (M : Rat) ≤ ((2 ^ m : Nat) : Rat) * l := by
    refine rcancel (c := (us m : Rat)) ?_ u0
    have c : (((M : Int) * (us m : Int) : Int) : Rat) ≤ ((lw : Int) : Rat) := by exact_mod_cast lq1
    rw [hlP, ← hlu, ← eu] at c
    have e : (((M : Nat) : Int) : Rat) = (M : Rat) := by exact_mod_cast rfl
    rw [e] at c
    grind
  have hl2 : ((2 ^ m : Nat) : Rat) * l ≤ (M : Rat) + 1 := by
    refine rcancel (c := (us m : Rat)) ?_ u0
    have c : ((lw : Int) : Rat) ≤ ((((M : Int) + 1) * (us m : Int) : Int) : Rat) := by exact_mod_cast (Int.le_of_lt lq2)
    rw [hlP, ← hlu, ← eu] at c
    have e : (((M : Int) + 1 : Int) : Rat) = (M : Rat) + 1 := by exact_mod_cast rfl
    rw [e] at c
    grind
  obtain ⟨g1, g2, g3, g4, _⟩ := ep_ends hs hs9 hf hM (Int.le_refl _) h
  have tk := tw_up (E := k - (m : Int)) (F := k) (k := m) (by omega) (by omega) (by omega)
  have eX : ((2 ^ m : Nat) : Rat) * rat false Z (k - (m : Int)) = (Z : Rat) * tw k := by
    rw [tw_times, tk, nat_pow_cast]
    grind
  have tt_ := tw_up (E := t - (m : Int)) (F := t) (k := m) (by omega) (by omega) (by omega)
  have eo : ((2 ^ m : Nat) : Rat) * rat false 1099511627776 (t - (m : Int)) = (1099511627776 : Rat) * tw t := by
    have e : ((1099511627776 : Nat) : Rat) = 1099511627776 := by exact_mod_cast rfl
    rw [tw_times, tt_, nat_pow_cast, e]
    grind
  have tkt : tw k ≤ tw t := by
    have e := tw_up (E := k) (F := t) (k := (t - k).toNat) (by omega) (by omega) (by omega)
    rw [e]
    have w0 := tw_pos k
    have one : (1 : Rat) ≤ 2 ^ (t - k).toNat := by
      have h9 : 1 ≤ 2 ^ (t - k).toNat := Nat.one_le_two_pow
      have : ((2 ^ (t - k).toNat : Nat) : Rat) = (2 : Rat) ^ (t - k).toNat := nat_pow_cast _
      rw [← this]
      exact_mod_cast h9
    have := rmul_le one (Rat.le_of_lt w0)
    grind
  have hoff : (16 + 128 * (k.natAbs : Rat)) * tw k ≤ ((2 ^ m : Nat) : Rat) * rat false 1099511627776 (t - (m : Int)) := by
    rw [eo]
    have w0 := tw_pos k
    have n3 : (k.natAbs : Rat) ≤ 3073 := by exact_mod_cast hkb
    have m1 := rmul_le (show 16 + 128 * (k.natAbs : Rat) ≤ 1099511627776 by grind) (Rat.le_of_lt w0)
    grind
  have fin := doc_exp (P := 2 ^ m) (T := T) (Z := Z) (M := M) (c := K) (k := k) (x := x) (v := v) (l := l) (n := rat n.neg n.V n.e) (by omega) (by omega) (by omega) (by omega) t1 t2 hv hx x1 z1 z2 hl1 hl2 (by rw [hl]; grind) eX hoff (Rat.le_of_lt g3) (Rat.le_of_lt g4) g1 g2
  have b0 := ub_pos
  have kX := rat_key X.neg X.V X.e
  have kY := rat_key Y.neg Y.V Y.e
  have ko := rat_key false Z (k - (m : Int))
  have kf := rat_key false 1099511627776 (t - (m : Int))
  have nf := dw_neg false 1099511627776 (t - (m : Int))
  have nf' : dw true 1099511627776 (t - (m : Int)) = -dw false 1099511627776 (t - (m : Int)) := nf
  refine ⟨?_, ?_, hkb, hkt.1, hkt.2⟩
  · have m1 := rmul_le fin.1 (Rat.le_of_lt b0)
    have m2 : ((dw X.neg X.V X.e : Int) : Rat) ≤ ((dw false Z (k - (m : Int)) + dw false 1099511627776 (t - (m : Int)) : Int) : Rat) := by
      have c : ((dw false Z (k - (m : Int)) + dw false 1099511627776 (t - (m : Int)) : Int) : Rat) = ((dw false Z (k - (m : Int)) : Int) : Rat) + ((dw false 1099511627776 (t - (m : Int)) : Int) : Rat) := by exact_mod_cast rfl
      rw [c, ← kX, ← ko, ← kf]
      grind
    exact_mod_cast m2
  · have m1 := rmul_le fin.2 (Rat.le_of_lt b0)
    rw [nf']
    have m2 : ((dw false Z (k - (m : Int)) - dw false 1099511627776 (t - (m : Int)) : Int) : Rat) ≤ ((dw Y.neg Y.V Y.e : Int) : Rat) := by
      have c : ((dw false Z (k - (m : Int)) - dw false 1099511627776 (t - (m : Int)) : Int) : Rat) = ((dw false Z (k - (m : Int)) : Int) : Rat) - ((dw false 1099511627776 (t - (m : Int)) : Int) : Rat) := by
        rw [Int.sub_eq_add_neg, Rat.intCast_add, Rat.intCast_neg]
        grind
      rw [c, ← kY, ← ko, ← kf]
      grind
    have m3 : dw false Z (k - (m : Int)) - dw false 1099511627776 (t - (m : Int)) ≤ dw Y.neg Y.V Y.e := by exact_mod_cast m2
    omega
end Go.Proofs.YtijhdlkfihjbiaaGreatDoor
