/- The walk of planimeterlaw13.alive (written by law_lalive.py). -/
import Derived.Test.YtijhdlkfihjbiaaDoorLgLogW
import Derived.Test.YtijhdlkfihjbiaaDoorRtOf
namespace Go.Proofs.YtijhdlkfihjbiaaDoor
open Go.RowKit

theorem logp_yes {g : Bool} {V : Nat} {e0 s : Int} {d1 d2 d : Dy} {r : Int} {m1 m2 : Nat} (h : LogP g V e0 s d1 d2 r m1 m2) (hm : mk g V e0 = some d) (hd : LogD d) (hs1 : 8 ≤ s) (hs2 : s ≤ 9000) : r = 0 ∧ ∃ L H, LogV d s.toNat L H ∧ Un s.toNat L d1 ∧ Un s.toNat H d2 := by
  rcases h with ⟨d', L, H, k1, k2, k3, k4, k5, k6, k7⟩ | ⟨k1, _⟩
  · rw [hm] at k1
    obtain rfl := Option.some.inj k1
    exact ⟨k4, L, H, k5, k6, k7⟩
  · exact absurd ⟨⟨d, hm, hd⟩, hs1, hs2⟩ k1
theorem logp_no {g : Bool} {V : Nat} {e0 s : Int} {d1 d2 : Dy} {r : Int} {m1 m2 : Nat} (h : LogP g V e0 s d1 d2 r m1 m2) (hn : ¬ ((∃ d, mk g V e0 = some d ∧ LogD d) ∧ 8 ≤ s ∧ s ≤ 9000)) : r = 1 ∧ m1 = 0 ∧ m2 = 0 := by
  rcases h with ⟨d', L, H, k1, k2, k3, k4, k5, k6, k7⟩ | ⟨_, k1⟩
  · exact absurd ⟨⟨d', k1, k2⟩, k3⟩ hn
  · exact k1
theorem logd_one (e : Int) (h1 : -1048576 ≤ e) (h2 : e ≤ 1048576) : LogD ⟨false, 1, e⟩ := by
  have b1 : blen 1 = 1 := rfl
  refine ⟨⟨by show -1073741824 ≤ e; omega, by show e ≤ 1073741824; omega, fun h => by cases h⟩, rfl, by show (1 : Nat) ≠ 0; decide, by show blen 1 ≤ 4000; omega, ?_, ?_⟩
  · show -1048576 ≤ (blen 1 : Int) - 1 + e
    omega
  · show (blen 1 : Int) - 1 + e ≤ 1048576
    omega
theorem ln2_pos {s lo hi : Nat} (hs : 8 ≤ s) (h1 : AtV false 1 3 (s + 1) lo) (h2 : AtV true 1 3 (s + 1) hi) : 0 < lo := by
  obtain ⟨hB, h3, h4⟩ := ln2_both h1 h2
  obtain ⟨x, hx⟩ : ∃ x : Rat, 3 * x = 1 := ⟨1 / 3, by grind⟩
  have k := (hB x hx).2 1
  have t : atS x 1 = x := by
    unfold atS
    simp only [hh]
    have e1 : ((2 * 0 + 1 : Nat) : Rat) = 1 := by exact_mod_cast rfl
    rw [e1]
    grind
  rw [t] at k
  have hW : 256 ≤ 2 ^ s := Nat.le_trans (show 256 ≤ 2 ^ 8 by decide) (Nat.pow_le_pow_right (by decide) hs)
  have hW' : (256 : Rat) ≤ ((2 ^ s : Nat) : Rat) := by exact_mod_cast hW
  have k2 : (6 : Rat) < (hi : Rat) := by
    generalize ((2 ^ s : Nat) : Rat) = W at *
    have hx' : x = 1 / 3 := by grind
    rw [hx'] at k
    grind
  have k3 : 6 < hi := by exact_mod_cast k2
  omega
theorem logv_two {L H : Int} {lo hi : Nat} (h : LogV ⟨false, 1, 1⟩ 64 L H) (h1 : AtV false 1 3 (64 + 1) lo) (h2 : AtV true 1 3 (64 + 1) hi) : L = (lo : Int) ∧ H = (hi : Int) ∧ 0 < L := by
  obtain ⟨n1, n2, n3, n4⟩ := np_one
  obtain ⟨L0, H0, hS, _, h3⟩ := h
  obtain ⟨rfl, rfl⟩ := h3 n2 n3 rfl
  have hS' : SumV ((1 : Int) + (npE 1 : Int)) (npX 1) (npY 1) (npN 1) 64 L H := hS
  rw [n1, n2, n3, n4] at hS'
  obtain ⟨l2, g2, a, b, v1, v2, hB, w1, w2, k, hL, hH⟩ := hS'
  obtain ⟨rfl, rfl⟩ := k rfl
  obtain rfl := atv_uniq v1 h1
  obtain rfl := atv_uniq v2 h2
  have p := ln2_pos (by decide) h1 h2
  have e1 : L = (l2 : Int) := by rw [hL]; simp
  have e2 : H = (g2 : Int) := by rw [hH]; simp
  exact ⟨e1, e2, by omega⟩
theorem un_sg {s : Nat} {L : Int} {d : Dy} (h : Un s L d) : sgD d.neg d.V = cmpI L 0 := by
  have k := sgD_spec d.neg d.V d.e
  have w := h.2.2
  have u : (0 : Int) < (us s : Int) := by have := us_pos s; omega
  rcases Int.lt_trichotomy L 0 with h0 | h0 | h0
  · have : L * (us s : Int) < 0 := Int.mul_neg_of_neg_of_pos h0 u
    rw [cmpI_lt h0]
    omega
  · rw [h0, Int.zero_mul] at w
    rw [cmpI_eq h0]
    omega
  · have : 0 < L * (us s : Int) := Int.mul_pos h0 u
    rw [cmpI_gt h0]
    omega


end Go.Proofs.YtijhdlkfihjbiaaDoor
