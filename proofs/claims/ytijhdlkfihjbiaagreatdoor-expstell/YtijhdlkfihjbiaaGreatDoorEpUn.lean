/- Dyads of up to 2^4000 as so many parts of 2^-s (written by mk_eun.py). -/
import Derived.Test.YtijhdlkfihjbiaaGreatDoorK6
namespace Go.Proofs.YtijhdlkfihjbiaaGreatDoor

theorem un_topX {s : Nat} {L : Int} {d : Dy} (h : Un s L d) (hs : s ≤ 9000) (hL : L.natAbs < 2 ^ (s + 4000)) (h0 : d.V ≠ 0) : (blen d.V : Int) + d.e ≤ 4000 := by
  have h1 := un_sz h
  have h2 : sz d.V d.e < 2 ^ (4000 + sh 0) := by
    rw [h1]
    have h3 : 2 ^ (s + 4000) * us s = 2 ^ (4000 + sh 0) := by
      rw [Nat.pow_add, Nat.mul_right_comm, Nat.mul_comm (2 ^ s), us_ub hs, ub_eq, Nat.pow_add, Nat.mul_comm]
    rw [← h3]
    exact Nat.mul_lt_mul_of_pos_right hL (us_pos s)
  have h4 := blen_le_iff.2 h2
  have h5 := blen_sz d.e h0
  have h6 := sh_held 0
  rw [held_id (by omega) (by omega)] at h6
  unfold topD at h5
  rw [h.1.held] at h5
  omega

theorem un_mkdX {s : Nat} {L : Int} {d : Dy} (h : Un s L d) (hs : s ≤ 9000) (hL : L.natAbs < 2 ^ (s + 4000)) (g : Bool) : ∃ b, mk g d.V d.e = some b := by
  refine mk_some h.1.1 h.1.2.1 fun h0 => ?_
  have := un_topX h hs hL h0
  omega

theorem un_addBX {s : Nat} {L M : Int} {a b : Dy} (ha : Un s L a) (hb : Un s M b) (hs : s ≤ 9000) (hL : L.natAbs < 2 ^ (s + 4000)) (hM : M.natAbs < 2 ^ (s + 4000)) : ∃ d, addB a b = some d ∧ Un s (L + M) d := by
  have key : ∀ d, addB a b = some d → (d.V = 0 ∨ -(s : Int) ≤ d.e) → Un s (L + M) d := fun d h h1 => by
    obtain ⟨k1, k2⟩ := addB_fine ha.1 hb.1 h
    exact ⟨k1, h1, by rw [k2, ha.2.2, hb.2.2, Int.add_mul]⟩
  by_cases ha0 : a.V = 0
  · have e : addB a b = some b := by unfold addB; rw [if_pos ha0]
    exact ⟨b, e, key b e hb.2.1⟩
  by_cases hb0 : b.V = 0
  · have e : addB a b = some a := by unfold addB; rw [if_neg ha0, if_pos hb0]
    exact ⟨a, e, key a e ha.2.1⟩
  have ta := un_topX ha hs hL ha0
  have tb := un_topX hb hs hM hb0
  have la : -(s : Int) ≤ a.e := by rcases ha.2.1 with h | h; exact absurd h ha0; exact h
  have lb : -(s : Int) ≤ b.e := by rcases hb.2.1 with h | h; exact absurd h hb0; exact h
  obtain ⟨l, hl⟩ : ∃ l, min a.e b.e = l := ⟨_, rfl⟩
  have pa := blen_pos ha0
  have pb := blen_pos hb0
  have fa1 := ha.1.1
  have fb1 := hb.1.1
  have hx : blen (a.V * 2 ^ (a.e - l).toNat) ≤ 13000 := by rw [blen_shl ha0]; omega
  have hy : blen (b.V * 2 ^ (b.e - l).toNat) ≤ 13000 := by rw [blen_shl hb0]; omega
  obtain ⟨x, ex⟩ : ∃ x, a.V * 2 ^ (a.e - l).toNat = x := ⟨_, rfl⟩
  obtain ⟨y, ey⟩ : ∃ y, b.V * 2 ^ (b.e - l).toNat = y := ⟨_, rfl⟩
  have hfar : ¬ 65535 < max ((blen a.V : Int) - 1 + a.e) ((blen b.V : Int) - 1 + b.e) - l := by omega
  have e : addB a b = if a.neg = b.neg then mk a.neg (x + y) l else if x < y then mk b.neg (y - x) l else mk a.neg (x - y) l := by
    unfold addB
    rw [if_neg ha0, if_neg hb0, hl, ex, ey, if_neg hfar]
  rw [ex] at hx
  rw [ey] at hy
  have hl1 : -9000 ≤ l := by omega
  have hl2 : l ≤ 4000 := by omega
  have hxy : blen (x + y) ≤ 13001 := by
    obtain ⟨K, hK⟩ : ∃ K, K = 13000 := ⟨_, rfl⟩
    have h1 := blen_le_iff.1 (show blen x ≤ K by omega)
    have h2 := blen_le_iff.1 (show blen y ≤ K by omega)
    have h3 : (2 : Nat) ^ K * 2 = 2 ^ (K + 1) := (Nat.pow_succ ..).symm
    have := blen_le_iff.2 (show x + y < 2 ^ (K + 1) by omega)
    omega
  have some_of : ∀ g z, z ≤ x + y → ∃ d, mk g z l = some d ∧ (d.V = 0 ∨ -(s : Int) ≤ d.e) := fun g z hz => by
    have h4 := blen_mono hz
    obtain ⟨d, hd⟩ := mk_some (g := g) (V := z) (e := l) (by omega) (by omega) (fun _ => by omega)
    refine ⟨d, hd, ?_⟩
    rcases mk_low hd (by omega) (by omega) with h5 | h5
    · exact Or.inl h5
    · exact Or.inr (by omega)
  split at e
  · obtain ⟨d, hd, h1⟩ := some_of a.neg (x + y) (Nat.le_refl _)
    exact ⟨d, e.trans hd, key d (e.trans hd) h1⟩
  · split at e
    · obtain ⟨d, hd, h1⟩ := some_of b.neg (y - x) (by omega)
      exact ⟨d, e.trans hd, key d (e.trans hd) h1⟩
    · obtain ⟨d, hd, h1⟩ := some_of a.neg (x - y) (by omega)
      exact ⟨d, e.trans hd, key d (e.trans hd) h1⟩

theorem un_addX {s : Nat} {L M : Int} {a b : Dy} (ha : Un s L a) (hb : Un s M b) (hs : s ≤ 9000) (hL : L.natAbs < 2 ^ (s + 4000)) (hM : M.natAbs < 2 ^ (s + 4000)) : ∃ d, addO (mk a.neg a.V a.e) (mk b.neg b.V b.e) = some d ∧ Un s (L + M) d := by
  obtain ⟨a', h1⟩ := un_mkdX ha hs hL a.neg
  obtain ⟨b', h2⟩ := un_mkdX hb hs hM b.neg
  rw [h1, h2]
  exact un_addBX (un_made ha h1) (un_made hb h2) hs hL hM

theorem un_nOX {s : Nat} {L : Int} {d : Dy} (h : Un s L d) (hs : s ≤ 9000) (hL : L.natAbs < 2 ^ (s + 4000)) : ∃ b, nO d.neg d.V d.e = b ∧ Un s L b ∧ -(s : Int) ≤ b.e ∧ b.e ≤ 1073741824 ∧ b.V ≤ d.V := by
  obtain ⟨b, hb⟩ := un_mkdX h hs hL d.neg
  have ub := un_made h hb
  refine ⟨b, nO_mk hb, ub, ?_, ub.1.2.1, (mk_fine hb).2.2.2⟩
  rcases ub.2.1 with h0 | h0
  · have := (ub.1.2.2 h0).2
    omega
  · exact h0

end Go.Proofs.YtijhdlkfihjbiaaGreatDoor
