/- What the document's Right is in the words of exps' contracts; what ExpsTell holds an interval against. -/
import Derived.Test.YtijhdlkfihjbiaaGreatDoorEpLawW
import Derived.Test.YtijhdlkfihjbiaaGreatDoorEpHolds
import Derived.Test.YtijhdlkfihjbiaaGreatDoorEpWords
namespace Go.Proofs.YtijhdlkfihjbiaaGreatDoor
open Go.RowKit

theorem right14_mid {g : Bool} {V : Nat} {e : Int} {d : Dy} (hd : nO g V e = d) : Right14 d.V d.e ↔ (mk g V e = some d ∧ Mid d) := by
  have hm := mk_nO g V e
  rw [hd] at hm
  constructor
  · rintro ⟨h1, h2, h3, h4⟩
    refine ⟨?_, h2, h3, fun h0 => ?_⟩
    · rw [hm]
      unfold toldD
      by_cases h0 : d.V = 0
      · rw [if_pos h0]
        rcases nO_odd g V e with ⟨m, hm⟩ | hz
        · rw [hd] at hm; omega
        · rw [hd] at hz
          rw [hz]
      · rw [if_neg h0, if_neg (by omega)]
    · rcases h4 with h4 | h4
      · exact absurd h4 h0
      · omega
  · rintro ⟨h1, h2, h3, h4⟩
    have hf := (mk_fine h1).1
    refine ⟨⟨hf.1, hf.2.1⟩, h2, h3, ?_⟩
    by_cases h0 : d.V = 0
    · exact Or.inl h0
    · have := h4 h0
      exact Or.inr (by omega)
/-- A number whose top is at most 9. -/
theorem top_sz {d : Dy} (hf : Fine d) (h : d.V ≠ 0 → (blen d.V : Int) - 1 + d.e ≤ 9) : sz d.V d.e ≤ 1024 * ub := by
  by_cases h0 : d.V = 0
  · have : sz d.V d.e = 0 := by unfold sz; rw [h0, Nat.zero_mul]
    omega
  · have h5 := blen_sz d.e h0
    have h6 := sh_held 0
    have h7 := h h0
    rw [held_id (by omega) (by omega)] at h6
    unfold topD at h5
    rw [hf.held] at h5
    have h8 : blen (sz d.V d.e) ≤ 10 + sh 0 := by omega
    have h9 := blen_le_iff.1 h8
    rw [Nat.pow_add, ← ub_eq] at h9
    exact Nat.le_of_lt h9
/-- An end of Exp as parts of 2^-9000, at 2^(k - s). -/
theorem end_un {p s : Nat} {k : Int} {X : Dy} (hs : s ≤ 8900) (h1 : (s : Int) - 9000 ≤ k) (h2 : k ≤ 9000) (h : mk false p (k - (s : Int)) = some X) : Un 9000 (((p * 2 ^ (9000 - s + k).toNat : Nat)) : Int) X := by
  obtain ⟨k1, k2, k3, _⟩ := mk_fine h
  refine ⟨k1, ?_, ?_⟩
  · rcases mk_low h (by omega) (by omega) with h | h
    · exact Or.inl h
    · exact Or.inr (by omega)
  · rw [k2, dw_shift (k := (9000 - s + k).toNat) (e := -((9000 : Nat) : Int)) false (by rw [held_id (by omega) (by omega), held_id (by omega) (by omega)]; omega), dw_us]
    rfl
/-- What the law holds between: the document's Exp and what is off, against both ends (the words of Holds); how thin (those of Thin). -/
theorem tell_words {n : Dy} {s : Nat} {k kk : Int} {Z : Nat} {X Y : Dy} (hs : 8 ≤ s) (hs9 : s ≤ 300) (hf : Fine n) (hn : sz n.V n.e ≤ 1024 * ub) (hM : Mid n) (h : EpV s n n kk X Y) (hd : DocE n (s + 80) k Z) :
    (dw X.neg X.V X.e ≤ dw false Z (k - ((s + 80 : Nat) : Int)) + dw false 1099511627776 ((blen Z : Int) - 1 + (k - ((s + 80 : Nat) : Int)) - ((s + 80 : Nat) : Int)) ∧ dw false Z (k - ((s + 80 : Nat) : Int)) + dw true 1099511627776 ((blen Z : Int) - 1 + (k - ((s + 80 : Nat) : Int)) - ((s + 80 : Nat) : Int)) ≤ dw Y.neg Y.V Y.e) ∧ k.natAbs ≤ 3073 ∧ Z ≠ 0 ∧ k ≤ (blen Z : Int) - 1 + (k - ((s + 80 : Nat) : Int)) ∧ (blen Z : Int) - 1 + (k - ((s + 80 : Nat) : Int)) ≤ k + 1 := by
  obtain ⟨h1, h2, h3, h4, h5⟩ := tell_ep (m := s + 80) hs (by omega) rfl hf hn hM h hd _ rfl
  refine ⟨⟨h1, h2⟩, h3, fun h0 => ?_, h4, h5⟩
  rw [h0] at h4
  have : blen 0 = 0 := by decide
  omega
end Go.Proofs.YtijhdlkfihjbiaaGreatDoor
