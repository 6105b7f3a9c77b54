/- float64 that are numbers, with a bound: what sums, differences and products of them tell, and so what Sum, Quick, Split, Prod, Add and Mul come to. -/
import Derived.Test.YtfccpjjdemanbaaJ2
namespace Go.Proofs.Ytfccpjjdemanbaa

/-- Bits of a number of at most 2^k units. -/
def Nb (k b : Nat) : Prop := b < 18446744073709551616 ∧ Fnt b ∧ (fvI b).natAbs ≤ 2 ^ k
theorem Nb.mono {k j b : Nat} (h : Nb k b) (hk : k ≤ j) : Nb j b := ⟨h.1, h.2.1, Nat.le_trans h.2.2 (Nat.pow_le_pow_right (by decide) hk)⟩
theorem rn_pow {x : Int} {k : Nat} (h : x.natAbs ≤ 2 ^ k) : (rn x).natAbs ≤ 2 ^ k := by
  have := rn_le (x := x) (f := ((2 ^ k : Nat) : Int)) (Fl.grid (P := 2 ^ k) (k := k) rfl ⟨1, by rw [Int.mul_one]⟩ (by rw [Int.natAbs_natCast]; omega)) (by rw [Int.natAbs_natCast]; exact h)
  rw [Int.natAbs_natCast] at this; exact this
theorem add_le {x y : Int} {k : Nat} (hx : x.natAbs ≤ 2 ^ k) (hy : y.natAbs ≤ 2 ^ k) : (x + y).natAbs ≤ 2 ^ (k + 1) := by
  rw [Nat.pow_succ]; generalize 2 ^ k = P at *; omega
theorem sub_le {x y : Int} {k : Nat} (hx : x.natAbs ≤ 2 ^ k) (hy : y.natAbs ≤ 2 ^ k) : (x - y).natAbs ≤ 2 ^ (k + 1) := by
  rw [Nat.pow_succ]; generalize 2 ^ k = P at *; omega
theorem nb_add {k a b : Nat} (hk : k ≤ 2090) (ha : Nb k a) (hb : Nb k b) : ∃ r, floatBits .add .f64 a b = some r ∧ Nb (k + 1) r ∧ fvI r = rn (fvI a + fvI b) := by
  have hr := rn_pow (add_le ha.2.2 hb.2.2)
  obtain ⟨z, hz⟩ : ∃ z, z = 2098 := ⟨_, rfl⟩
  obtain ⟨r, h1, h2, h3, h4⟩ := add_link hz ha.1 hb.1 ha.2.1 hb.2.1 (Nat.lt_of_le_of_lt hr (Nat.pow_lt_pow_right (by decide) (by omega)))
  exact ⟨r, h1, ⟨h2, h3, by rw [h4]; exact hr⟩, h4⟩
theorem nb_sub {k a b : Nat} (hk : k ≤ 2090) (ha : Nb k a) (hb : Nb k b) : ∃ r, floatBits .sub .f64 a b = some r ∧ Nb (k + 1) r ∧ fvI r = rn (fvI a - fvI b) := by
  have hr := rn_pow (sub_le ha.2.2 hb.2.2)
  obtain ⟨z, hz⟩ : ∃ z, z = 2098 := ⟨_, rfl⟩
  obtain ⟨r, h1, h2, h3, h4⟩ := sub_link hz ha.1 hb.1 ha.2.1 hb.2.1 (Nat.lt_of_le_of_lt hr (Nat.pow_lt_pow_right (by decide) (by omega)))
  exact ⟨r, h1, ⟨h2, h3, by rw [h4]; exact hr⟩, h4⟩
/-- A product that is a whole number of units. -/
theorem nb_mul {k u a b : Nat} {Q : Int} (hu : u = 1074) (hk : k ≤ 2090) (ha : a < 18446744073709551616) (hb : b < 18446744073709551616) (fa : Fnt a) (fb : Fnt b) (hQ : fvI a * fvI b = Q * ((2 ^ u : Nat) : Int)) (hl : Q.natAbs ≤ 2 ^ k) :
    ∃ r, floatBits .mul .f64 a b = some r ∧ Nb k r ∧ fvI r = rn Q := by
  have hr := rn_pow hl
  obtain ⟨z, hz⟩ : ∃ z, z = 2098 := ⟨_, rfl⟩
  obtain ⟨r, h1, h2, h3, h4⟩ := mul_link hz hu ha hb fa fb hQ (Nat.lt_of_le_of_lt hr (Nat.pow_lt_pow_right (by decide) (by omega)))
  exact ⟨r, h1, ⟨h2, h3, by rw [h4]; exact hr⟩, h4⟩

/-- The steps of Sum. -/
def SumEqs (a b s r : Nat) : Prop := ∃ t u v x, floatBits .add .f64 a b = some s ∧ floatBits .sub .f64 s a = some t ∧ floatBits .sub .f64 s t = some u ∧ floatBits .sub .f64 a u = some v ∧ floatBits .sub .f64 b t = some x ∧ floatBits .add .f64 v x = some r
/-- The steps of Quick. -/
def QuickEqs (a b s r : Nat) : Prop := ∃ t, floatBits .add .f64 a b = some s ∧ floatBits .sub .f64 s a = some t ∧ floatBits .sub .f64 b t = some r
/-- The steps of Split. -/
def SplitEqs (a h l : Nat) : Prop := ∃ c q, floatBits .mul .f64 4728779608772575232 a = some c ∧ floatBits .sub .f64 c a = some q ∧ floatBits .sub .f64 c q = some h ∧ floatBits .sub .f64 a h = some l
/-- The steps of Prod. -/
def ProdEqs (a b p r : Nat) : Prop := ∃ ah al bh bl t1 t2 t3 t4 r1 r2 r3, floatBits .mul .f64 a b = some p ∧ SplitEqs a ah al ∧ SplitEqs b bh bl ∧ floatBits .mul .f64 ah bh = some t1 ∧ floatBits .sub .f64 t1 p = some r1 ∧
  floatBits .mul .f64 ah bl = some t2 ∧ floatBits .add .f64 r1 t2 = some r2 ∧ floatBits .mul .f64 al bh = some t3 ∧ floatBits .add .f64 r2 t3 = some r3 ∧ floatBits .mul .f64 al bl = some t4 ∧ floatBits .add .f64 r3 t4 = some r
/-- The steps of Add. -/
def AddEqs (xh xl yh yl hi lo : Nat) : Prop := ∃ s e v x, SumEqs xh yh s e ∧ floatBits .add .f64 xl yl = some v ∧ floatBits .add .f64 e v = some x ∧ QuickEqs s x hi lo
/-- The steps of Mul. -/
def MulEqs (xh xl yh yl hi lo : Nat) : Prop := ∃ p e u1 u2 u x, ProdEqs xh yh p e ∧ floatBits .mul .f64 xh yl = some u1 ∧ floatBits .mul .f64 xl yh = some u2 ∧ floatBits .add .f64 u1 u2 = some u ∧ floatBits .add .f64 e u = some x ∧ QuickEqs p x hi lo

theorem nb_sum {k a b : Nat} (hk : k ≤ 2080) (ha : Nb k a) (hb : Nb k b) : ∃ s r, SumEqs a b s r ∧ Nb (k + 1) s ∧ Nb (k + 1) r ∧ fvI s = rn (fvI a + fvI b) ∧ fvI r = fvI a + fvI b - fvI s := by
  obtain ⟨s, h1, ns, vs⟩ := nb_add (by omega) ha hb
  obtain ⟨t, h2, nt, vt⟩ := nb_sub (k := k + 1) (by omega) ns (ha.mono (by omega))
  obtain ⟨u, h3, nu, vu⟩ := nb_sub (k := k + 2) (by omega) (ns.mono (by omega)) nt
  obtain ⟨v, h4, nv, vv⟩ := nb_sub (k := k + 3) (by omega) (ha.mono (by omega)) nu
  obtain ⟨x, h5, nx, vx⟩ := nb_sub (k := k + 2) (by omega) (hb.mono (by omega)) nt
  obtain ⟨r, h6, nr, vr⟩ := nb_add (k := k + 4) (by omega) nv (nx.mono (by omega))
  have hv : fvI r = fvI a + fvI b - fvI s := by
    rw [vr, vv, vu, vx]
    exact two_sum (fvI_Fl a) (fvI_Fl b) vs.symm vt.symm
  refine ⟨s, r, ⟨t, u, v, x, h1, h2, h3, h4, h5, h6⟩, ns, ⟨nr.1, nr.2.1, ?_⟩, vs, hv⟩
  have h := rn_near (fvI_Fl a) (x := fvI a + fvI b)
  rw [← vs] at h
  have hl := hb.2.2
  rw [hv, Nat.pow_succ]
  generalize 2 ^ k = P at *
  omega
theorem nb_quick {k a b : Nat} (hk : k ≤ 2080) (ha : Nb k a) (hb : Nb k b) : ∃ s r, QuickEqs a b s r ∧ Nb (k + 1) s ∧ Nb (k + 3) r ∧ fvI s = rn (fvI a + fvI b) ∧ fvI r = rn (fvI b - rn (fvI s - fvI a)) := by
  obtain ⟨s, h1, ns, vs⟩ := nb_add (by omega) ha hb
  obtain ⟨t, h2, nt, vt⟩ := nb_sub (k := k + 1) (by omega) ns (ha.mono (by omega))
  obtain ⟨r, h3, nr, vr⟩ := nb_sub (k := k + 2) (by omega) (hb.mono (by omega)) nt
  exact ⟨s, r, ⟨t, h1, h2, h3⟩, ns, nr, vs, by rw [vr, vt]⟩
theorem nb_quick2 {k a b : Nat} (hk : k ≤ 2080) (ha : Nb k a) (hb : Nb k b) (hab : (fvI b).natAbs ≤ (fvI a).natAbs) : ∃ s r, QuickEqs a b s r ∧ Nb (k + 3) s ∧ Nb (k + 3) r ∧ fvI s = rn (fvI a + fvI b) ∧ fvI r = fvI a + fvI b - fvI s := by
  obtain ⟨s, r, h, ns, nr, vs, vr⟩ := nb_quick hk ha hb
  refine ⟨s, r, h, ns.mono (by omega), nr, vs, ?_⟩
  rw [vr, vs]
  exact quick_sum (fvI_Fl a) (fvI_Fl b) hab

theorem rn_scale (x : Int) (k : Nat) : rn (x * ((2 ^ k : Nat) : Int)) = rn x * ((2 ^ k : Nat) : Int) := by
  have hp := Nat.two_pow_pos k
  have h1 : (x * ((2 ^ k : Nat) : Int)).natAbs = x.natAbs * 2 ^ k := by rw [Int.natAbs_mul, Int.natAbs_natCast]
  unfold rn
  rw [h1, rN_scale]
  by_cases h : x < 0
  · rw [if_pos h, if_pos (Int.mul_neg_of_neg_of_pos h (by omega)), Int.neg_mul, Int.natCast_mul]
  · rw [if_neg h, if_neg (Int.not_lt.2 (Int.mul_nonneg (by omega) (by omega))), Int.natCast_mul]
theorem halver_val {u : Nat} (hu : u = 1074) : fvI 4728779608772575232 = 134217729 * ((2 ^ u : Nat) : Int) := by
  have e1 : fm 4728779608772575232 = 4503599660924928 := by decide
  obtain ⟨v, hv⟩ : ∃ v : Nat, v = 1049 := ⟨_, rfl⟩
  have e2 : fE 4728779608772575232 = v := by rw [hv]; decide
  have e3 : fng 4728779608772575232 = false := by decide
  unfold fvI
  rw [e1, e2, e3, if_neg (by decide), show (4503599660924928 : Nat) = 134217729 * 2 ^ 25 by decide, Nat.mul_assoc]
  rw [← Nat.pow_add, show 25 + v = u by omega, Int.natCast_mul]
  rfl
/-- A number of 53 bits, or 0, at a place. -/
def Nm (A : Int) : Prop := A = 0 ∨ (4503599627370496 ≤ A.natAbs ∧ A.natAbs < 9007199254740992)
/-- The upper half. -/
def hv (A : Int) : Int := rn (rn (134217729 * A) - rn (rn (134217729 * A) - A))
theorem hv_neg (A : Int) : hv (-A) = - hv A := by
  unfold hv
  rw [Int.mul_neg, rn_neg, show -rn (134217729 * A) - -A = -(rn (134217729 * A) - A) by omega, rn_neg, show -rn (134217729 * A) - -rn (rn (134217729 * A) - A) = -(rn (134217729 * A) - rn (rn (134217729 * A) - A)) by omega, rn_neg]
theorem nb_split {k a α : Nat} {A : Int} (hk : k ≤ 2040) (ha : Nb k a) (hA : Nm A) (ea : fvI a = A * ((2 ^ α : Nat) : Int)) :
    ∃ h l, SplitEqs a h l ∧ Nb (k + 30) h ∧ Nb (k + 31) l ∧ ∃ H : Int, H = hv A ∧ fvI h = H * ((2 ^ α : Nat) : Int) ∧ fvI l = (A - H) * ((2 ^ α : Nat) : Int) ∧ (134217728 : Int) ∣ H ∧ H.natAbs ≤ 9007199254740992 ∧ (A - H).natAbs ≤ 67108864 := by
  obtain ⟨u, hu⟩ : ∃ u : Nat, u = 1074 := ⟨_, rfl⟩
  have hq : fvI 4728779608772575232 * fvI a = (134217729 * fvI a) * ((2 ^ u : Nat) : Int) := by rw [halver_val hu]; ac_rfl
  obtain ⟨c, h1, nc, vc⟩ := nb_mul (k := k + 28) hu (by omega) (by decide) ha.1 (by decide) ha.2.1 hq (by
    rw [Int.natAbs_mul, show (134217729 : Int).natAbs = 134217729 from rfl, Nat.pow_add, Nat.mul_comm]
    exact Nat.mul_le_mul ha.2.2 (by decide))
  obtain ⟨q, h2, nq, vq⟩ := nb_sub (k := k + 28) (by omega) nc (ha.mono (by omega))
  obtain ⟨h, h3, nh, vh⟩ := nb_sub (k := k + 29) (by omega) (nc.mono (by omega)) nq
  obtain ⟨l, h4, nl, vl⟩ := nb_sub (k := k + 30) (by omega) (ha.mono (by omega)) nh
  have vc' : fvI c = rn (134217729 * A) * ((2 ^ α : Nat) : Int) := by rw [vc, ea, ← Int.mul_assoc, rn_scale]
  have vq' : fvI q = rn (rn (134217729 * A) - A) * ((2 ^ α : Nat) : Int) := by rw [vq, vc', ea, ← Int.sub_mul, rn_scale]
  have vh' : fvI h = rn (rn (134217729 * A) - rn (rn (134217729 * A) - A)) * ((2 ^ α : Nat) : Int) := by rw [vh, vq', vc', ← Int.sub_mul, rn_scale]
  obtain ⟨k1, k2, k3, k4⟩ := split_all hA rfl rfl (rfl : rn (rn (134217729 * A) - rn (rn (134217729 * A) - A)) = _)
  refine ⟨h, l, ⟨c, q, h1, h2, h3, h4⟩, nh, nl, _, rfl, vh', ?_, k1, k2, k3⟩
  rw [vl, vh', ea, ← Int.sub_mul, rn_scale, k4]
  rfl

theorem half_mul {H L g : Nat} {x y : Int} (hx : x.natAbs ≤ H) (hy : y.natAbs ≤ L) (h : H * L ≤ 2 ^ 106) : (x * y * ((2 ^ g : Nat) : Int)).natAbs ≤ 2 ^ (106 + g) := by
  rw [Int.natAbs_mul, Int.natAbs_natCast, Nat.pow_add]
  exact Nat.mul_le_mul_right _ (Nat.le_trans (mul_le hx hy) h)
theorem at_place {x y : Int} {α β u g : Nat} (h : α + β = u + g) : x * ((2 ^ α : Nat) : Int) * (y * ((2 ^ β : Nat) : Int)) = x * y * ((2 ^ g : Nat) : Int) * ((2 ^ u : Nat) : Int) := by
  have e : ((2 ^ α : Nat) : Int) * ((2 ^ β : Nat) : Int) = ((2 ^ g : Nat) : Int) * ((2 ^ u : Nat) : Int) := by
    rw [← Int.natCast_mul, ← Int.natCast_mul, ← Nat.pow_add, ← Nat.pow_add, h, Nat.add_comm]
  have e1 : x * ((2 ^ α : Nat) : Int) * (y * ((2 ^ β : Nat) : Int)) = x * y * (((2 ^ α : Nat) : Int) * ((2 ^ β : Nat) : Int)) := by ac_rfl
  rw [e1, e]; ac_rfl
/-- Prod: the product and what it leaves. -/
theorem nb_prod {k a b α β u g : Nat} {A B : Int} (hu : u = 1074) (hk : k ≤ 2040) (ha : Nb k a) (hb : Nb k b) (hA : Nm A) (hB : Nm B) (ea : fvI a = A * ((2 ^ α : Nat) : Int)) (eb : fvI b = B * ((2 ^ β : Nat) : Int)) (hg : α + β = u + g) (hg2 : g ≤ 1974) :
    ∃ p r, ProdEqs a b p r ∧ Nb (106 + g) p ∧ Nb (110 + g) r ∧ fvI p = rn (A * B * ((2 ^ g : Nat) : Int)) ∧ fvI r = A * B * ((2 ^ g : Nat) : Int) - fvI p := by
  have lA : A.natAbs ≤ 9007199254740992 := by rcases hA with h | h <;> omega
  have lB : B.natAbs ≤ 9007199254740992 := by rcases hB with h | h <;> omega
  have lAB := mul_le lA lB
  obtain ⟨p, h0, np, vp⟩ := nb_mul (k := 106 + g) hu (by omega) ha.1 hb.1 ha.2.1 hb.2.1 (by rw [ea, eb]; exact at_place hg) (half_mul lA lB (by decide))
  obtain ⟨ah, al, hsa, nah, nal, x, _, vah, val_, a1, a2, a3⟩ := nb_split hk ha hA ea
  obtain ⟨bh, bl, hsb, nbh, nbl, y, _, vbh, vbl, b1, b2, b3⟩ := nb_split hk hb hB eb
  obtain ⟨t1, h1, n1, v1⟩ := nb_mul (k := 106 + g) hu (by omega) nah.1 nbh.1 nah.2.1 nbh.2.1 (by rw [vah, vbh]; exact at_place hg) (half_mul a2 b2 (by decide))
  obtain ⟨t2, h2, n2, v2⟩ := nb_mul (k := 106 + g) hu (by omega) nah.1 nbl.1 nah.2.1 nbl.2.1 (by rw [vah, vbl]; exact at_place hg) (half_mul a2 b3 (by decide))
  obtain ⟨t3, h3, n3, v3⟩ := nb_mul (k := 106 + g) hu (by omega) nal.1 nbh.1 nal.2.1 nbh.2.1 (by rw [val_, vbh]; exact at_place hg) (half_mul a3 b2 (by decide))
  obtain ⟨t4, h4, n4, v4⟩ := nb_mul (k := 106 + g) hu (by omega) nal.1 nbl.1 nal.2.1 nbl.2.1 (by rw [val_, vbl]; exact at_place hg) (half_mul a3 b3 (by decide))
  obtain ⟨r1, g1, m1, w1⟩ := nb_sub (k := 106 + g) (by omega) n1 np
  obtain ⟨r2, g2, m2, w2⟩ := nb_add (k := 107 + g) (by omega) (m1.mono (by omega)) (n2.mono (by omega))
  obtain ⟨r3, g3, m3, w3⟩ := nb_add (k := 108 + g) (by omega) (m2.mono (by omega)) (n3.mono (by omega))
  obtain ⟨r, g4, m4, w4⟩ := nb_add (k := 109 + g) (by omega) (m3.mono (by omega)) (n4.mono (by omega))
  refine ⟨p, r, ⟨ah, al, bh, bl, t1, t2, t3, t4, r1, r2, r3, h0, hsa, hsb, h1, g1, h2, g2, h3, g3, h4, g4⟩, np, m4.mono (by omega), vp, ?_⟩
  rw [w4, w3, w2, w1, v4, v3, v2, v1, vp]
  simp only [rn_scale, ← Int.sub_mul, ← Int.add_mul]
  congr 1
  by_cases zA : A = 0
  · have hx : x = 0 := by obtain ⟨m, rfl⟩ := a1; omega
    subst zA; subst hx
    simp [rn_zero]
  · by_cases zB : B = 0
    · have hy : y = 0 := by obtain ⟨m, rfl⟩ := b1; omega
      subst zB; subst hy
      simp [rn_zero]
    · exact prod_rest (hA.resolve_left zA) (hB.resolve_left zB) a1 a2 a3 (by omega) b1 b2 b3 (by omega) rfl
end Go.Proofs.Ytfccpjjdemanbaa
