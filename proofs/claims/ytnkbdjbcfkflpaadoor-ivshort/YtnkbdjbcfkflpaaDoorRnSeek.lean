/- The document's rounding: planimeterref07.Limit, value, Below. -/
import Derived.Test.YtnkbdjbcfkflpaaDoorK5
import Derived.Test.YtnkbdjbcfkflpaaDoorRnOrd
namespace Go.Proofs.YtnkbdjbcfkflpaaDoor
open Go.RowKit

theorem dig_new1 (w : World) (t x : Nat) (X : Int) (hX : X = (x : Int)) (hx : x < 65536) : Dig (w.alloc (.cells #[.int .u32 X] t)) (some ⟨w.heap.size, 0, none⟩) 1 1 [x] :=
  ⟨⟨rfl, Nat.le_refl _, fun _ => ⟨w.heap.size, 0, rfl, by simp, fun k hk => by
    obtain rfl : k = 0 := by omega
    subst hX
    simp [World.cell?_alloc_new]⟩⟩, D.Words.one hx⟩
theorem dbare_one {x : Nat} (hx : x ≠ 0) : D.Bare [x] := by
  unfold D.Bare
  simp [D.tl, hx]
theorem dval_one (x : Nat) : D.val [x] = x := by show x + 65536 * 0 = x; omega


/-- The number of bits without a sign; infinity's is 2^1024. -/
def vO (b : Nat) : Dy := if b = 9218868437227405312 then ⟨false, 1, 1024⟩ else fO b
theorem sz_inf {e : Int} (h : e = 1024) : sz 1 e = vX 9218868437227405312 := by
  have h1 := sh_eq (e := e) (by omega) (by omega)
  have h2 := kb_eq
  rw [vX_inf, sz, Nat.one_mul]
  congr 1
  omega
theorem vO_facts {b : Nat} (hb : b ≤ 9218868437227405312) : (vO b).neg = false ∧ sz (vO b).V (vO b).e = vX b ∧ -1074 ≤ (vO b).e ∧ (vO b).e ≤ 1024 ∧ (vO b).V < 9007199254740992 ∧ ((vO b).V = 0 ↔ b = 0) := by
  by_cases h : b = 9218868437227405312
  · have e : vO b = ⟨false, 1, 1024⟩ := by unfold vO; rw [if_pos h]
    rw [e]
    refine ⟨rfl, ?_, by decide, by decide, by decide, ?_⟩
    · rw [h]; exact sz_inf (e := 1024) rfl
    · show (1 : Nat) = 0 ↔ b = 0; omega
  · have e : vO b = fO b := by unfold vO; rw [if_neg h]
    rw [e]
    have hf : Fnt b := by unfold Fnt fex; omega
    have hng : fng b = false := decide_eq_false (by omega)
    have hs := fO_size hf
    rw [Nat.mod_eq_of_lt (show b < 9223372036854775808 by omega)] at hs
    have hp := x_parts (X := b) (by omega)
    by_cases h0 : fm b = 0
    · have hz : fO b = ⟨false, 0, 0⟩ := fO_zero h0
      refine ⟨by rw [hz], hs, by rw [hz]; decide, by rw [hz]; decide, by rw [hz]; decide, ?_⟩
      rw [hz]
      show (0 : Nat) = 0 ↔ b = 0
      rw [h0] at hp
      constructor
      · intro _
        rcases Nat.eq_zero_or_pos (fE b) with h9 | h9
        · have := hp.1; rw [h9] at this; omega
        · have := hp.2.2.1 h9; omega
      · intro _; rfl
    · obtain ⟨k1, k2, k3⟩ := fO_pos hf h0
      have hbd := fe_bd hf
      have hl : low (fm b) < 53 := by
        refine (low_lt_iff (Nat.pos_of_ne_zero h0)).2 ?_
        have := (f_parts b).2.1
        show fm b % 9007199254740992 ≠ 0
        omega
      refine ⟨by rw [k1, hng], hs, by rw [k3]; omega, by rw [k3]; omega, ?_, ?_⟩
      · rw [k2]; exact Nat.lt_of_le_of_lt (Nat.div_le_self _ _) hp.2.1
      · rw [k2]
        constructor
        · intro h9; exact absurd (odd_part_zero.1 h9) h0
        · intro h9
          subst h9
          exact absurd (show fm 0 = 0 from by decide) h0


end Go.Proofs.YtnkbdjbcfkflpaaDoor
