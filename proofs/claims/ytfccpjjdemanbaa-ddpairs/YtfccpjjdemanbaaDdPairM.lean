/- What DdPairs rests on: sums and products of pairs, as near as they are told to be. -/
import Derived.Test.YtfccpjjdemanbaaDdProdM
namespace Go.Proofs.Ytfccpjjdemanbaa
open Go.RowKit

/-- Add. -/
theorem nb_padd {k xh xl yh yl : Nat} {m n : Int} (hk : k ≤ 2070) (h1 : Nb k xh) (h2 : Nb k xl) (h3 : Nb k yh) (h4 : Nb k yl) (hm : 0 ≤ m) (hn : 0 ≤ n) (hx : m = fvI xh + fvI xl) (hy : n = fvI yh + fvI yl)
    (bx : 9007199254740992 * (fvI xl).natAbs ≤ m.natAbs) (by_ : 9007199254740992 * (fvI yl).natAbs ≤ n.natAbs) :
    ∃ hi lo, AddEqs xh xl yh yl hi lo ∧ Nb (k + 6) hi ∧ Nb (k + 6) lo ∧ (fvI hi + fvI lo - (m + n)).natAbs * 1267650600228229401496703205376 ≤ (m + n).natAbs := by
  obtain ⟨s, e, i1, ns, ne, vs, ve⟩ := nb_sum (by omega) h1 h3
  obtain ⟨v, i2, nv, vv⟩ := nb_add (by omega) h2 h4
  obtain ⟨x, i3, nx, vx⟩ := nb_add (k := k + 1) (by omega) ne nv
  obtain ⟨hi, lo, i4, nhi, nlo, vhi, vlo⟩ := nb_quick (k := k + 2) (by omega) (ns.mono (by omega)) nx
  rw [ve] at vx
  obtain ⟨q1, q2⟩ := pair_add hm hn hx hy bx by_ vs.symm vv.symm vx.symm vhi.symm
  refine ⟨hi, lo, ⟨s, e, v, x, i1, i2, i3, i4⟩, nhi.mono (by omega), nlo.mono (by omega), ?_⟩
  rw [vlo, q1, show fvI hi + (fvI s + fvI x - fvI hi) = fvI s + fvI x by omega]
  exact q2
/-- A product of any two whose product isn't too great. -/
theorem nb_mul_any {k u a b : Nat} (hu : u = 1074) (hk : k ≤ 2090) (ha : a < 18446744073709551616) (hb : b < 18446744073709551616) (fa : Fnt a) (fb : Fnt b) (hl : (fvI a * fvI b).natAbs ≤ 2 ^ k * 2 ^ u) :
    ∃ r, floatBits .mul .f64 a b = some r ∧ Nb (k + 2) r ∧ 9007199254740992 * (fvI r * ((2 ^ u : Nat) : Int) - fvI a * fvI b).natAbs ≤ (fvI a * fvI b).natAbs + 2 ^ u * 4503599627370496 := by
  obtain ⟨z, hz⟩ : ∃ z, z = 2098 := ⟨_, rfl⟩
  have hp := Nat.two_pow_pos u
  obtain ⟨r, h1, h2, h3, h4⟩ := mul_any hz hu ha hb fa fb (by
    have h5 : 2 ^ k * 2 ^ u * 2 < 2 ^ z * 2 ^ u := by
      rw [Nat.mul_right_comm, ← Nat.pow_succ]
      exact Nat.mul_lt_mul_of_pos_right (Nat.pow_lt_pow_right (by decide) (by omega)) hp
    generalize 2 ^ k * 2 ^ u = X at *
    omega)
  refine ⟨r, h1, ⟨h2, h3, ?_⟩, h4⟩
  have h6 := abs_two (show fvI r * ((2 ^ u : Nat) : Int) = fvI a * fvI b + (fvI r * ((2 ^ u : Nat) : Int) - fvI a * fvI b) by omega)
  rw [Int.natAbs_mul, Int.natAbs_natCast] at h6
  have hk1 : 1 ≤ 2 ^ k := Nat.two_pow_pos k
  have h7 : 2 ^ u ≤ 2 ^ k * 2 ^ u := Nat.le_mul_of_pos_left _ hk1
  have h8 : (fvI r).natAbs * 2 ^ u ≤ 2 ^ (k + 2) * 2 ^ u := by
    rw [show 2 ^ (k + 2) * 2 ^ u = 4 * (2 ^ k * 2 ^ u) by rw [Nat.pow_add, show (2 : Nat) ^ 2 = 4 from rfl, Nat.mul_comm (2 ^ k) 4, Nat.mul_assoc]]
    generalize (fvI r * ((2 ^ u : Nat) : Int) - fvI a * fvI b).natAbs = E at *
    generalize (fvI a * fvI b).natAbs = W at *
    generalize (fvI r).natAbs * 2 ^ u = R at *
    generalize 2 ^ k * 2 ^ u = X at *
    generalize 2 ^ u = P at *
    omega
  exact Nat.le_of_mul_le_mul_right h8 hp
/-- Mul. -/
theorem nb_pmul {k xh xl yh yl α β u g : Nat} {m n X Y : Int} (hu : u = 1074) (hk : k ≤ 2000) (h1 : Nb k xh) (h2 : Nb k xl) (h3 : Nb k yh) (h4 : Nb k yl) (hx : m = fvI xh + fvI xl) (hy : n = fvI yh + fvI yl)
    (bx : 9007199254740992 * (fvI xl).natAbs ≤ m.natAbs) (by_ : 9007199254740992 * (fvI yl).natAbs ≤ n.natAbs) (hX : Nm X) (hY : Nm Y) (ex : fvI xh = X * ((2 ^ α : Nat) : Int)) (ey : fvI yh = Y * ((2 ^ β : Nat) : Int)) (hg : α + β = u + g) (hg2 : g ≤ 1900)
    (hlo : 2 ^ u * 1329227995784915872903807060280344576 ≤ (m * n).natAbs) (hhi : (m * n).natAbs ≤ 2 ^ 1990 * 2 ^ u) :
    ∃ hi lo, MulEqs xh xl yh yl hi lo ∧ Nb 2040 hi ∧ Nb 2040 lo ∧ ((fvI hi + fvI lo) * ((2 ^ u : Nat) : Int) - m * n).natAbs * 316912650057057350374175801344 ≤ (m * n).natAbs := by
  obtain ⟨K, hK⟩ : ∃ K : Nat, K = 1990 := ⟨_, rfl⟩
  obtain ⟨J, hJ⟩ : ∃ J : Nat, J = 2040 := ⟨_, rfl⟩
  rw [← hK] at hhi
  rw [← hJ]
  have hp := Nat.two_pow_pos u
  have x1 : (fvI xh).natAbs ≤ 2 * m.natAbs := by
    have k9 := abs_two (show fvI xh = m + -fvI xl by omega)
    rw [Int.natAbs_neg] at k9
    clear hlo hhi hx hy
    omega
  have y1 : (fvI yh).natAbs ≤ 2 * n.natAbs := by
    have k9 := abs_two (show fvI yh = n + -fvI yl by omega)
    rw [Int.natAbs_neg] at k9
    clear hlo hhi hx hy
    omega
  have mulb : ∀ a b : Int, ∀ M N : Nat, a.natAbs ≤ 2 * M → b.natAbs ≤ N → M * N ≤ 2 ^ K * 2 ^ u → (a * b).natAbs ≤ 2 ^ (K + 1) * 2 ^ u := fun a b M N q1 q2 q3 => by
    have q4 := mul_le q1 q2
    rw [Nat.mul_assoc] at q4
    rw [Nat.pow_succ, Nat.mul_comm (2 ^ K) 2, Nat.mul_assoc]
    exact Nat.le_trans q4 (Nat.mul_le_mul_left 2 q3)
  have hW : m.natAbs * n.natAbs ≤ 2 ^ K * 2 ^ u := by rw [← Int.natAbs_mul]; exact hhi
  obtain ⟨p, r, i1, np, nr, vp, vr⟩ := nb_prod hu (by omega) h1 h3 hX hY ex ey hg (by omega)
  obtain ⟨u1, i2, nu1, e1⟩ := nb_mul_any (k := K + 1) hu (by omega) h1.1 h4.1 h1.2.1 h4.2.1 (mulb _ _ _ n.natAbs x1 (by omega) hW)
  obtain ⟨u2, i3, nu2, e2⟩ := nb_mul_any (k := K + 1) hu (by omega) h2.1 h3.1 h2.2.1 h3.2.1 (by
    rw [Int.mul_comm]
    exact mulb _ _ _ m.natAbs y1 (by omega) (by rw [Nat.mul_comm]; exact hW))
  obtain ⟨v, i4, nv, vv⟩ := nb_add (k := K + 3) (by omega) nu1 nu2
  obtain ⟨x, i5, nx, vx⟩ := nb_add (k := 2030) (by omega) (nr.mono (by omega)) (nv.mono (by omega))
  obtain ⟨hi, lo, i6, nhi, nlo, vhi, vlo⟩ := nb_quick (k := 2031) (by omega) (np.mono (by omega)) nx
  rw [vr] at vx
  have hQ : fvI xh * fvI yh = X * Y * ((2 ^ g : Nat) : Int) * ((2 ^ u : Nat) : Int) := by rw [ex, ey]; exact at_place hg
  obtain ⟨q1, q2⟩ := pair_mul hp hx hy bx by_ hQ vp.symm e1 e2 vv.symm vx.symm vhi.symm hlo
  refine ⟨hi, lo, ⟨p, r, u1, u2, v, x, i1, i2, i3, i4, i5, i6⟩, nhi.mono (by omega), nlo.mono (by omega), ?_⟩
  rw [vlo, q1, show fvI hi + (fvI p + fvI x - fvI hi) = fvI p + fvI x by omega]
  exact q2
end Go.Proofs.Ytfccpjjdemanbaa
