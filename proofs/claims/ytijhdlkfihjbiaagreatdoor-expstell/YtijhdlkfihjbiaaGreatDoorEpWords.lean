/- The words of the contracts of exps.Split and exps.Exp. -/
import Derived.Test.YtijhdlkfihjbiaaGreatDoorEpBackM
namespace Go.Proofs.YtijhdlkfihjbiaaGreatDoor
open Go.RowKit

/-- An interval that may be split at a scale, as it comes in. -/
def SplitOk (g1 : Bool) (V1 : Nat) (e1 : Int) (g2 : Bool) (V2 : Nat) (e2 s : Int) (lo hi : Dy) : Prop :=
  mk g1 V1 e1 = some lo ∧ mk g2 V2 e2 = some hi ∧ Mid lo ∧ Mid hi ∧ dw lo.neg lo.V lo.e ≤ dw hi.neg hi.V hi.e ∧ 8 ≤ s ∧ s ≤ 8900
/-- .. and when it isn't split. -/
def SplitNo (g1 : Bool) (V1 : Nat) (e1 : Int) (g2 : Bool) (V2 : Nat) (e2 s : Int) : Prop :=
  (¬ ∃ lo hi, SplitOk g1 V1 e1 g2 V2 e2 s lo hi) ∨ ∃ lo hi, SplitOk g1 V1 e1 g2 V2 e2 s lo hi ∧ ∃ (k : Int) (a b c d : Nat), EpW s.toNat lo hi k a b c d ∧ 2 ^ s.toNat < b
/-- What exps.Exp tells: both ends and an error. -/
def ExpP (g1 : Bool) (V1 : Nat) (e1 : Int) (g2 : Bool) (V2 : Nat) (e2 s : Int) (X Y : Dy) (r : Int) (m1 m2 : Nat) : Prop :=
  (∃ lo hi k, SplitOk g1 V1 e1 g2 V2 e2 s lo hi ∧ r = 0 ∧ EpV s.toNat lo hi k X Y) ∨ (SplitNo g1 V1 e1 g2 V2 e2 s ∧ r = 1 ∧ m1 = 0 ∧ m2 = 0)
/-- .. of what may be split and isn't too wide. -/
theorem expp_ok {g1 : Bool} {V1 : Nat} {e1 : Int} {g2 : Bool} {V2 : Nat} {e2 : Int} {s : Nat} {lo hi X Y : Dy} {r : Int} {m1 m2 : Nat} (h1 : mk g1 V1 e1 = some lo) (h2 : mk g2 V2 e2 = some hi) (h3 : Mid lo) (h4 : Mid hi) (h5 : dw lo.neg lo.V lo.e ≤ dw hi.neg hi.V hi.e) (hs : 8 ≤ s) (hs9 : s ≤ 8900)
    (hb : ∀ k a b c d, EpW s lo hi k a b c d → b ≤ 2 ^ s) (h : ExpP g1 V1 e1 g2 V2 e2 (s : Int) X Y r m1 m2) : r = 0 ∧ ∃ k, EpV s lo hi k X Y := by
  have hok : SplitOk g1 V1 e1 g2 V2 e2 (s : Int) lo hi := ⟨h1, h2, h3, h4, h5, by omega, by omega⟩
  have et : (s : Int).toNat = s := Int.toNat_natCast s
  have same : ∀ {lo' hi'}, SplitOk g1 V1 e1 g2 V2 e2 (s : Int) lo' hi' → lo' = lo ∧ hi' = hi := fun h' => ⟨Option.some.inj (h'.1.symm.trans h1), Option.some.inj (h'.2.1.symm.trans h2)⟩
  rcases h with ⟨lo', hi', k, k1, k2, k3⟩ | ⟨hn | ⟨lo', hi', k1, k, a, b, c, d, k2, k3⟩, _⟩
  · obtain ⟨rfl, rfl⟩ := same k1
    rw [et] at k3
    exact ⟨k2, k, k3⟩
  · exact absurd ⟨lo, hi, hok⟩ hn
  · obtain ⟨rfl, rfl⟩ := same k1
    rw [et] at k2 k3
    have := hb k a b c d k2
    omega
/-- .. of what may not. -/
theorem expp_no {g1 : Bool} {V1 : Nat} {e1 : Int} {g2 : Bool} {V2 : Nat} {e2 s : Int} {X Y : Dy} {r : Int} {m1 m2 : Nat} (hn : ¬ ∃ lo hi, SplitOk g1 V1 e1 g2 V2 e2 s lo hi) (h : ExpP g1 V1 e1 g2 V2 e2 s X Y r m1 m2) : r = 1 := by
  rcases h with ⟨lo', hi', k, k1, _⟩ | ⟨_, h, _⟩
  · exact absurd ⟨lo', hi', k1⟩ hn
  · exact h
/-- The chapter's example: of 0, 1 is in it. -/
theorem expp_nought {X Y : Dy} {r : Int} {m1 m2 : Nat} (h : ExpP false 0 0 false 0 0 64 X Y r m1 m2) : r = 0 ∧ rat X.neg X.V X.e ≤ 1 ∧ 1 ≤ rat Y.neg Y.V Y.e ∧ X.V ≠ 0 ∧ X.neg = false ∧ Y.neg = false := by
  have hmk : mk false 0 0 = some ⟨false, 0, 0⟩ := by unfold mk toldD; rw [if_pos (by decide)]
  have hf : Fine ⟨false, 0, 0⟩ := (mk_fine hmk).1
  have hmid : Mid ⟨false, 0, 0⟩ := ⟨by decide, by decide, fun h => absurd rfl h⟩
  obtain ⟨h0, k, hv⟩ := expp_ok (s := 64) hmk hmk hmid hmid (Int.le_refl _) (by decide) (by decide) (fun k a b c d hw => point_fits (by decide) (by decide) hf hmid hw) h
  obtain ⟨g1, g2, g3, g4, g5, _, g6, g7, _⟩ := ep_ends (by decide) (by decide) hf hmid (Int.le_refl _) hv
  have z : rat false 0 0 = 0 := by
    have a := rat_key false 0 0
    rw [dw_zero] at a
    have b := ub_pos
    have c : ((0 : Int) : Rat) = 0 := by exact_mod_cast rfl
    rw [c] at a
    refine rat_eq_of (c := (ub : Rat)) b ?_
    grind
  dsimp only at g1 g2
  rw [z] at g1 g2
  exact ⟨h0, ln_cancel (Rat.le_of_lt g3) (by grind) g1 LnGe.one, ln_cancel (by grind) (Rat.le_of_lt g4) LnLe.one g2, g5, g6, g7⟩
theorem ep_known {s : Nat} {lo hi : Dy} {k k' : Int} {a b c d a' b' c' d' : Nat} (h : EpW s lo hi k a b c d) (h' : EpW s lo hi k' a' b' c' d') : k = k' ∧ a = a' ∧ b = b' ∧ c = c' ∧ d = d' := by
  obtain ⟨h1, h2, h3, h4⟩ := h
  obtain ⟨h1', h2', h3', h4'⟩ := h'
  have ec := atv_uniq h1 h1'
  have ed := atv_uniq h2 h2'
  subst ec ed
  have ek : k = k' := by rw [h3, h3']
  subst ek
  have ea := h4.1.trans h4'.1.symm
  have eb := h4.2.trans h4'.2.symm
  exact ⟨rfl, by omega, by omega, rfl, rfl⟩
end Go.Proofs.YtijhdlkfihjbiaaGreatDoor
