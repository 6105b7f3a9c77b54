/- What the law RatioRules rests on: numbers alone. -/
import Derived.Test.YteflihpnhgicfaaDoorRtAlive
import Derived.Test.YteflihpnhgicfaaDoorRtPow
import Derived.Test.YteflihpnhgicfaaDoorK2
namespace Go.Proofs.YteflihpnhgicfaaDoor

theorem cmpR_ok {o1 o2 : Option Dy} {i j v : Int} (h : cmpR o1 i o2 j = (v, 0)) : ∃ x b, o1 = some x ∧ o2 = some b ∧ x.V ≠ 0 ∧ b.V ≠ 0 ∧ x.neg = false ∧ b.neg = false ∧ 1 ≤ j ∧ fitB x.V x.e i = true ∧ v = ratC x.V x.e i b.V b.e j.toNat := by
  unfold cmpR at h
  cases o1 with
  | none => injection h with _ h2; exact absurd h2 (by decide)
  | some x =>
    cases o2 with
    | none => injection h with _ h2; exact absurd h2 (by decide)
    | some b =>
      simp only at h
      split at h
      · rename_i h9
        split at h
        · rename_i h8
          injection h with h2 _
          rw [Bool.and_eq_true] at h8
          obtain ⟨a1, a2⟩ := sgD_above h9.1
          obtain ⟨a3, a4⟩ := sgD_above h9.2.1
          exact ⟨x, b, rfl, rfl, a1, a3, a2, a4, h9.2.2, h8.1, h2.symm⟩
        · injection h with _ h2; exact absurd h2 (by decide)
      · injection h with _ h2; exact absurd h2 (by decide)
theorem rule_times {o1 o2 : Option Dy} {i c d : Int} {j t : Nat} (ht : t ≠ 0) (h1 : cmpR o1 i o2 (j : Int) = (c, 0)) (h2 : cmpR o1 (i * t) o2 ((j * t : Nat) : Int) = (d, 0)) : c = d := by
  obtain ⟨x, b, q1, q2, _, _, _, _, _, _, q3⟩ := cmpR_ok h1
  obtain ⟨x', b', r1, r2, _, _, _, _, _, _, r3⟩ := cmpR_ok h2
  rw [q1] at r1
  rw [q2] at r2
  obtain rfl := Option.some.inj r1
  obtain rfl := Option.some.inj r2
  rw [q3, r3, Int.toNat_natCast, Int.toNat_natCast, ratC_times ht]
theorem rule_more {o1 : Option Dy} {i j c u : Int} {k k' : Bool} {V V' : Nat} {e e' : Int} {G : Dy} (h1 : cmpR o1 i (mk k V e) j = (c, 0)) (ha : addO (mk k V e) (mk k' V' e') = some G) (hs : 0 < sgD k' V') (h2 : cmpR o1 i (mk G.neg G.V G.e) j = (u, 0)) : u ≤ c := by
  obtain ⟨x, b, q1, q2, qV, qU, _, qn, _, _, q3⟩ := cmpR_ok h1
  obtain ⟨x', b', r1, r2, _, _, _, rn, _, _, r3⟩ := cmpR_ok h2
  rw [q1] at r1
  obtain rfl := Option.some.inj r1
  rw [q3, r3]
  refine ratC_anti (Nat.pos_of_ne_zero qV) ?_
  have f1 := mk_fine q2
  have f2 := mk_fine r2
  have f3 := (addO_fine ha).2
  rw [← cq_dw f1.1.1 f1.1.2.1 f2.1.1 f2.1.2.1]
  have e1 : dw false b.V b.e = dw k V e := by rw [← qn]; exact f1.2.1
  have e2 : dw false b'.V b'.e = dw k V e + dw k' V' e' := by rw [← rn, f2.2.1, f3]
  rw [e1, e2]
  have hp : 0 < dw k' V' e' := by
    rcases sgD_spec k' V' e' with ⟨a, _⟩ | ⟨a, _⟩ | ⟨a, _, b1, b2⟩
    · omega
    · omega
    · omega
  rw [cmpI_lt (by omega)]
  decide
theorem rule_pow {g : Bool} {V : Nat} {e : Int} {j : Nat} {p : Dy} {u : Int} (h1 : powR (mk g V e) (j : Int) = (p, 0)) (h2 : cmpR (mk g V e) (j : Int) (mk p.neg p.V p.e) 1 = (u, 0)) : u = 0 := by
  obtain ⟨x, b, q1, q2, qV, qU, qn, _, _, _, q3⟩ := cmpR_ok h2
  obtain ⟨ho, _, _⟩ := mk_odd_of q1
  rw [q1] at h1
  unfold powR at h1
  simp only at h1
  rw [if_neg (by omega), Int.toNat_natCast] at h1
  by_cases h9 : fitB x.V x.e (j : Int) = true
  · rw [if_pos h9] at h1
    injection h1 with h3 _
    unfold fitB at h9
    rw [Bool.and_eq_true, Int.natAbs_natCast] at h9
    have hb := abs_mul_le (of_decide_eq_true h9.2)
    have hmk := mk_odd_self (powD_odd ho j) (by show -1073741824 ≤ x.e * j; omega) (by show x.e * j ≤ 1073741824; omega)
    rw [h3] at hmk
    rw [hmk] at q2
    obtain rfl := Option.some.inj q2
    rw [q3, ← h3]
    exact ratC_self _ _ _
  · rw [if_neg h9] at h1
    injection h1 with _ h3; exact absurd h3 (by decide)
end Go.Proofs.YteflihpnhgicfaaDoor
