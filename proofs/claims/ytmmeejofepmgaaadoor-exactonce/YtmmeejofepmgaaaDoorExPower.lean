/- The document's powers by comparisons alone: planimeterref11.Power. -/
import Derived.Test.YtmmeejofepmgaaaDoorExBelow
import Derived.Test.YtmmeejofepmgaaaDoorExMid
namespace Go.Proofs.YtmmeejofepmgaaaDoor
open Go.RowKit

theorem lowC_upto (V : Nat) (E i : Int) (k : Nat) (hV : 0 < V) (hk : k ≠ 0) (n : Nat) : ∃ X, X ≤ n ∧ 0 ≤ cS V E i k (vX X) ∧ (X < n → cS V E i k (vX (X + 1)) < 0) := by
  induction n with
  | zero => exact ⟨0, Nat.le_refl _, by rw [show vX 0 = 0 from by unfold vX; rw [show fm 0 = 0 from by decide, Nat.zero_mul], cS_zero hV hk]; decide, fun h => by omega⟩
  | succ n ih =>
    rcases Int.lt_or_le (cS V E i k (vX (n + 1))) 0 with h | h
    · obtain ⟨X, h1, h2, h3⟩ := ih
      refine ⟨X, by omega, h2, fun h4 => ?_⟩
      by_cases h5 : X = n
      · rw [h5]; exact h
      · exact h3 (by omega)
    · exact ⟨n + 1, Nat.le_refl _, h, fun h4 => by omega⟩
theorem lowC_some (V : Nat) (E i : Int) (k : Nat) (hV : 0 < V) (hk : k ≠ 0) : ∃ X, LowC V E i k X := lowC_upto V E i k hV hk 9218868437227405312
theorem nO_size (g : Bool) {V U m : Nat} {E f : Int} (hV : V ≠ 0) (h1 : -1073741824 ≤ E) (h2 : E ≤ 1073741824) (hU : U = 2 * m + 1) (h3 : -1073741824 ≤ f) (h4 : f ≤ 1073741824) (h : sz V E = sz U f) : nO g V E = ⟨g, U, f⟩ := by
  obtain ⟨q, hq⟩ := low_spec (Nat.pos_of_ne_zero hV)
  unfold sz at h
  obtain ⟨l, hl⟩ : ∃ l, low V = l := ⟨_, rfl⟩
  rw [hl] at hq
  have l1 : low (V * 2 ^ sh E) = l + sh E := low_eq (m := q) (by rw [hq, Nat.pow_add, Nat.mul_right_comm])
  have l2 : low (U * 2 ^ sh f) = sh f := low_eq (m := m) (by rw [hU, Nat.mul_comm])
  have l3 : l + sh E = sh f := by rw [← l1, h, l2]
  rw [← l3, Nat.pow_add, ← Nat.mul_assoc] at h
  have h5 := Nat.eq_of_mul_eq_mul_right (Nat.two_pow_pos _) h
  have b1 := sh_eq h1 h2
  have b2 := sh_eq h3 h4
  rw [nO_pos _ _ hV, hl, h5, Nat.mul_div_cancel _ (Nat.two_pow_pos _), held_id h1 h2, show E + (l : Int) = f by omega]

/-- What the document's Power tells. -/
def ExTold (w : World) (V : Nat) (E i : Int) (k : Nat) (e : Ending) (w' : World) : Prop :=
  ∃ A m c ds E' b, e = .returned (.tuple #[.agg #[.bool false, .slice A m c, .int .i64 E'], .bool b]) ∧ m ≤ 140 ∧ Dig w' A m c ds ∧ D.Bare ds ∧ Below w.heap.size w w' ∧
    ((b = true ∧ D.val ds ≠ 0 ∧ ∃ d, ExIs V E i k d ∧ nO false (D.val ds) E' = d) ∨ (b = false ∧ ∀ d, ¬ ExIs V E i k d))

theorem ex_limit {V : Nat} {E i : Int} {k : Nat} (hV : 0 < V) (h : cS V E i k (vX 9218868437227405312) = 0) : ExIs V E i k ⟨false, 1, 1024⟩ :=
  ⟨rfl, rfl, by decide, by decide, by decide, by rw [ratC_sz hV (by decide) (by decide), sz_inf rfl]; exact h⟩
theorem ex_worth {V : Nat} {E i : Int} {k X : Nat} (hV : 0 < V) (hX : X < 9218868437227405312) (h0 : 0 < X) (h : cS V E i k (vX X) = 0) : ExIs V E i k (vO X) := by
  obtain ⟨f1, f2, f3, f4, f5, f6⟩ := vO_facts (b := X) (by omega)
  have hv : vO X = fO X := by unfold vO; rw [if_neg (by omega)]
  have hf : Fnt X := by unfold Fnt fex; omega
  have hm0 : fm X ≠ 0 := fun h9 => by
    have h8 : (vO X).V = 0 := by rw [hv, fO_zero h9]
    have := f6.1 h8
    omega
  have ho : (vO X).V % 2 = 1 := by
    rw [hv, (fO_pos hf hm0).2.1]
    obtain ⟨q, hq⟩ := low_spec (Nat.pos_of_ne_zero hm0)
    have h5 := Nat.mul_div_cancel_left (2 * q + 1) (Nat.two_pow_pos (low (fm X)))
    rw [← hq] at h5
    omega
  refine ⟨f1, ho, by omega, by omega, ?_, by rw [ratC_sz hV (by omega) (by omega), f2]; exact h⟩
  have hl : IsLow (sz (vO X).V (vO X).e) X := by rw [f2]; exact ⟨by omega, Nat.le_refl _, fun _ => vX_lt hX⟩
  have hb := (brk_low (g := (vO X).neg) (m := (vO X).V / 2) (by omega) (by omega) (by omega) hl).2 (Or.inr ⟨hX, Or.inl f2⟩)
  exact hb
theorem ex_mid {V : Nat} {E i : Int} {k X U : Nat} {F : Int} (hV : 0 < V) (hX : X < 9218868437227405312) (hU : U ≠ 0) (h1 : -2000 ≤ F) (h2 : F ≤ 2000) (hs : 2 * sz U F = vX X + vX (X + 1)) (h : cS V E i k (sz U F) = 0) : ExIs V E i k (nO false U F) ∧ (nO false U F).V ≠ 0 := by
  have hf : Fnt X := by unfold Fnt fex; omega
  have hfe := fe_bd hf
  have hms := mid_size hf
  rw [Nat.mod_eq_of_lt (show X < 9223372036854775808 by omega)] at hms
  have hsz : sz U F = sz (2 * fm X + 1) (fe X - 1) := by omega
  rw [nO_size false hU (by omega) (by omega) (m := fm X) rfl (by omega) (by omega) hsz]
  have hl := mid_low hf
  rw [Nat.mod_eq_of_lt (show X < 9223372036854775808 by omega)] at hl
  refine ⟨⟨rfl, by show (2 * fm X + 1) % 2 = 1; omega, by show -1073741824 ≤ fe X - 1; omega, by show fe X - 1 ≤ 1073741824; omega, ?_, ?_⟩, by show 2 * fm X + 1 ≠ 0; omega⟩
  · exact (brk_low (g := false) (m := fm X) rfl (by omega) (by omega) hl).2 (Or.inr ⟨hX, Or.inr hms⟩)
  · show ratC V E i (2 * fm X + 1) (fe X - 1) k = 0
    rw [ratC_sz hV (by omega) (by omega), ← hsz]
    exact h

/-- While it is walked: the number in its box, the result's block. -/
theorem none_inf {V : Nat} {E i : Int} {k : Nat} (hV : 0 < V) (hk : k ≠ 0) (hX : LowC V E i k 9218868437227405312) (h : cS V E i k (vX 9218868437227405312) ≠ 0) : ∀ d, ¬ ExIs V E i k d := fun d hd => by
  have h6 := hd.2.2.2.2.2
  rw [ratC_sz hV hd.2.2.1 hd.2.2.2.1] at h6
  rcases hd.at hV hk hX with ⟨_, h9⟩ | ⟨h9, _⟩
  · rw [h9] at h6; exact h h6
  · omega
theorem none_fin {V : Nat} {E i : Int} {k X U : Nat} {F : Int} (hV : 0 < V) (hk : k ≠ 0) (hX : LowC V E i k X) (hX9 : X < 9218868437227405312) (h1 : X = 0 ∨ cS V E i k (vX X) ≠ 0) (hs : 2 * sz U F = vX X + vX (X + 1)) (h2 : cS V E i k (sz U F) ≠ 0) : ∀ d, ¬ ExIs V E i k d := fun d hd => by
  have h6 := hd.2.2.2.2.2
  rw [ratC_sz hV hd.2.2.1 hd.2.2.2.1] at h6
  rcases hd.at hV hk hX with ⟨h9, _⟩ | ⟨_, h9 | h9⟩
  · omega
  · rcases h1 with h1 | h1
    · subst h1
      rw [show vX 0 = 0 from by unfold vX; rw [show fm 0 = 0 from by decide, Nat.zero_mul]] at h9
      have h8 := sz_pos (V := d.V) d.e (fun h7 => by have := hd.2.1; rw [h7] at this; exact absurd this (by decide))
      omega
    · rw [h9] at h6; exact h1 h6
  · have h8 : sz d.V d.e = sz U F := by omega
    rw [h8] at h6; exact h2 h6


end Go.Proofs.YtmmeejofepmgaaaDoor
