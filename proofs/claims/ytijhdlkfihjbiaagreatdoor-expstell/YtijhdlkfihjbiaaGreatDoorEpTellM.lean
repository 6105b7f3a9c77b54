/- What ExpsTell asks, of numbers alone: the ends as parts of 2^-9000; how thin. -/
import Derived.Test.YtijhdlkfihjbiaaGreatDoorEpTellW
import Derived.Test.YtijhdlkfihjbiaaGreatDoorEpSplitN
namespace Go.Proofs.YtijhdlkfihjbiaaGreatDoor
open Go.RowKit

theorem far_of {d : Dy} {s K : Nat} (h1 : sz d.V d.e ≤ K * ub) (hs : s ≤ 9000) : (flU s d).natAbs ≤ K * 2 ^ s + 1 := by
  have h2 := us_ub hs
  have h3 := flU_le s d
  have h4 : (dw d.neg d.V d.e).natAbs = sz d.V d.e := by
    unfold dw
    cases d.neg
    · exact Int.natAbs_natCast _
    · show (-(sz d.V d.e : Int)).natAbs = _
      rw [Int.natAbs_neg]
      exact Int.natAbs_natCast _
  rw [← h2, Nat.mul_comm (us s), ← Nat.mul_assoc] at h1
  obtain ⟨W, hW⟩ : ∃ W, K * 2 ^ s = W := ⟨_, rfl⟩
  rw [hW] at h1 ⊢
  have p := us_pos s
  generalize dw d.neg d.V d.e = D at *
  generalize flU s d = L at *
  have e1 : ((W * us s : Nat) : Int) = (W : Int) * (us s : Int) := Int.natCast_mul _ _
  have g1 : D ≤ (W : Int) * (us s : Int) := by omega
  have g2 : -((W : Int) * (us s : Int)) ≤ D := by omega
  rw [← Int.neg_mul] at g2
  have k1 : L ≤ (W : Int) := Int.le_of_mul_le_mul_right (Int.le_trans h3.1 g1) (by omega)
  have k2 : -(W : Int) < L + 1 := Int.lt_of_mul_lt_mul_right (Int.lt_of_le_of_lt g2 h3.2) (by omega)
  omega
/-- Digits of a value: none just of 0. -/
theorem dig_nil {w : World} {A : Option Addr} {m c : Nat} {ds : List Nat} (h : Dig w A m c ds) (hb : D.Bare ds) : m = 0 ↔ D.val ds = 0 := by
  have h5 := h.len
  constructor
  · intro h0
    rw [h0] at h5
    rw [List.eq_nil_of_length_eq_zero h5]
    rfl
  · intro h0
    have h6 : D.tl ds = 0 := D.tl_zero_iff.2 h0
    rw [hb] at h6
    omega
theorem expp_wide {g : Bool} {V : Nat} {e : Int} {n X Y : Dy} {s : Nat} {r : Int} {m1 m2 : Nat} (h1 : mk g V e = some n) (hno : ∃ k a b c d, EpW s n n k a b c d ∧ 2 ^ s < b) (h : ExpP g V e g V e (s : Int) X Y r m1 m2) : r = 1 := by
  rcases h with ⟨lo, hi, k, hok, h0, hE⟩ | ⟨_, h, _⟩
  · obtain rfl := Option.some.inj (hok.1.symm.trans h1)
    obtain rfl := Option.some.inj (hok.2.1.symm.trans h1)
    rw [Int.toNat_natCast] at hE
    obtain ⟨a, b, c, d, p, q, hw, hb, _⟩ := hE
    obtain ⟨k', a', b', c', d', hw', hb'⟩ := hno
    have := (ep_known hw hw').2.2.1
    omega
  · exact h
theorem split_same {g : Bool} {V : Nat} {e : Int} {n X Y : Dy} {s : Nat} {k kk r : Int} {a b m1 m2 : Nat} (h1 : mk g V e = some n) (hE : EpV s n n kk X Y) (hok : SplitOk g V e g V e (s : Int) n n) (h : SplitP g V e g V e (s : Int) k a b r m1 m2) : r = 0 ∧ k = kk := by
  obtain ⟨a', b', c', d', p, q, hw', hb', _⟩ := hE
  rcases h with ⟨lo, hi, c, d, ho, hw, hb, h0⟩ | ⟨hn | ⟨lo, hi, ho, k1, a1, b1, c1, d1, hw, hb⟩, _⟩
  · obtain rfl := Option.some.inj (ho.1.symm.trans h1)
    obtain rfl := Option.some.inj (ho.2.1.symm.trans h1)
    rw [Int.toNat_natCast] at hw
    exact ⟨h0, (ep_known hw hw').1⟩
  · exact absurd ⟨n, n, hok⟩ hn
  · obtain rfl := Option.some.inj (ho.1.symm.trans h1)
    obtain rfl := Option.some.inj (ho.2.1.symm.trans h1)
    rw [Int.toNat_natCast] at hw hb
    have := (ep_known hw hw').2.2.1
    omega
/-- In order. -/
theorem tell_order {n X Y : Dy} {s : Nat} {kk : Int} (hs : 8 ≤ s) (hs9 : s ≤ 8900) (hf : Fine n) (hM : Mid n) (h : EpV s n n kk X Y) : dw X.neg X.V X.e ≤ dw Y.neg Y.V Y.e := by
  obtain ⟨e1, e2, x0, y0, _⟩ := ep_ends hs hs9 hf hM (Int.le_refl _) h
  exact rat_le.1 (ln_cancel (Rat.le_of_lt x0) (Rat.le_of_lt y0) e1 e2)
theorem tell_ends {n X Y : Dy} {z : Nat} {kk : Int} (hz8 : 8 ≤ z) (hz : z ≤ 300) (hn : sz n.V n.e ≤ 1024 * ub) (h : EpV z n n kk X Y) :
    ∃ (Lo Hi : Int) (j : Nat), Un 9000 Lo X ∧ Un 9000 Hi Y ∧ Lo.natAbs < 2 ^ (9000 + 4000) ∧ Hi.natAbs < 2 ^ (9000 + 4000) ∧ ((9000 : Nat) : Int) = ((z : Int) - kk) + (j : Int) ∧ -9000 ≤ (z : Int) - kk ∧ Lo ≤ Hi ∧
      Hi - Lo ≤ ((8 * z + 131 + 3 * kk.natAbs * (2 * z + 128) : Nat) : Int) * ((2 ^ j : Nat) : Int) ∧ blen X.V ≤ 64 * 6 ∧ blen Y.V ≤ 64 * 6 ∧ kk.natAbs ≤ 3076 := by
  obtain ⟨F, hF⟩ : ∃ F : Nat, 9000 + 4000 = F := ⟨_, rfl⟩
  rw [hF]
  obtain ⟨a, b, c, d, p, q, hw, hb, v1, v2, mX, mY⟩ := h
  obtain ⟨t1, t2, t3⟩ := point_thin hz8 (by omega) hw hb v1 v2
  have hW : 2 ^ 8 ≤ 2 ^ z := Nat.pow_le_pow_right (by decide) hz8
  have hk := epw_k (n := 1025) hz8 hw (Int.le_refl _) (by have := far_of (s := z) hn (by omega); have e8 : (2 : Nat) ^ 8 = 256 := rfl; omega)
  obtain ⟨j, hj⟩ : ∃ j : Nat, (9000 - z + kk).toNat = j := ⟨_, rfl⟩
  have u1 := end_un (p := p) (s := z) (k := kk) (by omega) (by omega) (by omega) mX
  have u2 := end_un (p := q) (s := z) (k := kk) (by omega) (by omega) (by omega) mY
  rw [hj] at u1 u2
  have e20 : 2 ^ (z + 20) = 2 ^ z * 1048576 := Nat.pow_add ..
  have hq : q < 2 ^ (z + 20) := by
    have e8 : (2 : Nat) ^ 8 = 256 := rfl
    rw [e20]
    omega
  have hp : p < 2 ^ (z + 20) := by omega
  have far : ∀ {x : Nat}, x < 2 ^ (z + 20) → (((x * 2 ^ j : Nat)) : Int).natAbs < 2 ^ F := fun {x} hx => by
    rw [Int.natAbs_natCast]
    have h1 : x * 2 ^ j < 2 ^ (z + 20) * 2 ^ j := Nat.mul_lt_mul_of_pos_right hx (Nat.two_pow_pos j)
    rw [← Nat.pow_add] at h1
    have h2 : z + 20 + j ≤ F := by omega
    have h3 : 2 ^ (z + 20 + j) ≤ 2 ^ F := Nat.pow_le_pow_right (show 0 < 2 by decide) h2
    exact Nat.lt_of_lt_of_le h1 h3
  have short : ∀ {x V : Nat}, x < 2 ^ (z + 20) → V ≤ x → blen V ≤ 64 * 6 := fun {x V} hx hV => by
    have := blen_le_iff.2 (Nat.lt_of_le_of_lt hV hx)
    omega
  have hmul : ∀ {x y : Nat}, x ≤ y → ((x * 2 ^ j : Nat) : Int) ≤ ((y * 2 ^ j : Nat) : Int) := fun {x y} h => by
    have := Nat.mul_le_mul_right (2 ^ j) h
    omega
  refine ⟨_, _, j, u1, u2, far hp, far hq, by omega, by omega, hmul t1, ?_, short hp (mk_fine mX).2.2.2, short hq (mk_fine mY).2.2.2, by omega⟩
  have h5 := hmul t2
  rw [Nat.add_mul] at h5
  rw [← Int.natCast_mul]
  omega
end Go.Proofs.YtijhdlkfihjbiaaGreatDoor
