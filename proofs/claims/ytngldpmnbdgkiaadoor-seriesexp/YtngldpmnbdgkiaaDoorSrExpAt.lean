/- exp of twice atanh: never above (1 + r)/(1 - r), however many terms. -/
import Derived.Test.YtngldpmnbdgkiaaDoorSrDiff
namespace Go.Proofs.YtngldpmnbdgkiaaDoor

/-- A great enough whole number. -/
theorem rat_arch (a : Rat) : ∃ n : Nat, a ≤ (n : Rat) := by
  refine ⟨a.ceil.toNat, ?_⟩
  have h1 := Rat.le_ceil (x := a)
  have h2 : (a.ceil : Rat) ≤ ((a.ceil.toNat : Nat) : Rat) := by
    have h3 : a.ceil ≤ ((a.ceil.toNat : Nat) : Int) := Int.self_le_toNat _
    exact_mod_cast h3
  exact Rat.le_trans h1 h2
theorem pow_small {u : Rat} (h0 : 0 ≤ u) : ∀ n : Nat, (1 + u) ^ n * (1 - n * u) ≤ 1 ∧ 1 ≤ (1 + u) ^ n := by
  intro n
  induction n with
  | zero =>
    rw [Rat.pow_zero]
    have : ((0 : Nat) : Rat) = 0 := rfl
    rw [this]
    constructor
    · grind
    · exact Rat.le_refl
  | succ n ih =>
    obtain ⟨i1, i2⟩ := ih
    have e : ((n + 1 : Nat) : Rat) = (n : Rat) + 1 := by exact_mod_cast rfl
    have n0 := rnat_nonneg n
    rw [Rat.pow_succ, e]
    generalize (1 + u) ^ n = W at *
    generalize (n : Rat) = m at *
    have k1 := rmul_le h0 h0
    have k3 : (1 + u) * (1 - (m + 1) * u) ≤ 1 - m * u := by
      have := rmul_le n0 (show 0 ≤ u * u by grind)
      grind
    have k4 := rmul_le k3 (show 0 ≤ W by grind)
    have k5 := rmul_le h0 (show 0 ≤ W by grind)
    constructor
    · grind
    · grind
theorem gS_le {y : Rat} (h0 : 0 ≤ y) (c : Nat) : (1 - y) * gS y c ≤ 1 := by
  rw [gS_mul]
  have := rpow_nonneg h0 c
  grind
theorem gS_nonneg {y : Rat} (h0 : 0 ≤ y) (c : Nat) : 0 ≤ gS y c := by
  induction c with
  | zero => exact Rat.le_refl
  | succ c ih =>
    have e : gS y (c + 1) = gS y c + y ^ c := rfl
    rw [e]
    have := rpow_nonneg h0 c
    grind
theorem atS_nonneg {x : Rat} (h0 : 0 ≤ x) (c : Nat) : 0 ≤ atS x c := by
  have e : atS 0 c = 0 := by unfold atS; grind
  have h := (atS_diff (x := 0) (z := x) (Rat.le_refl) h0 c).1
  have g := gS_nonneg (y := 0 * 0) (by grind) c
  have k := rmul_le g h0
  grind
/-- One step. -/
theorem step_up {x z : Rat} (h0 : 0 ≤ x) (h : x ≤ z) (hz : 3 * z ≤ 1) (c N : Nat) :
    (1 - z) * (1 + x) * eS (2 * atS z c) N ≤ (1 - x) * (1 + z) * (1 + 9 * ((z - x) * (z - x))) * eS (2 * atS x c) N := by
  have z0 : 0 ≤ z := by grind
  obtain ⟨d1, d2⟩ := atS_diff h0 h c
  obtain ⟨y0, y1⟩ := third z0 hz
  have g1 := gS_le y0 c
  have g0 := gS_nonneg (y := x * x) (by have := rmul_le h0 h0; grind) c
  obtain ⟨δ, hδ⟩ : ∃ δ, atS z c - atS x c = δ := ⟨_, rfl⟩
  obtain ⟨s, hs⟩ : ∃ s, z - x = s := ⟨_, rfl⟩
  have s0 : 0 ≤ s := by grind
  rw [hδ, hs] at d1 d2
  have δ0 : 0 ≤ δ := by
    have := rmul_le g0 s0
    rw [Rat.mul_zero] at this
    exact Rat.le_trans this d1
  have wδ : (1 - z) * (1 + x) * δ ≤ s := by
    have a1 := rmul_le g1 s0
    have a2 := rmul_le d2 (show 0 ≤ 1 - z * z by grind)
    have a3 : (1 - z) * (1 + x) ≤ 1 - z * z := by
      have := rmul_le h (show 0 ≤ 1 - z by grind)
      grind
    have a4 := rmul_le a3 δ0
    generalize gS (z * z) c = g at *
    clear d1 g0
    grind
  have w23 : 2 ≤ 3 * ((1 - z) * (1 + x)) := by
    have := rmul_le h0 (show 0 ≤ 1 - z by grind)
    grind
  obtain ⟨w, hw⟩ : ∃ w, (1 - z) * (1 + x) = w := ⟨_, rfl⟩
  rw [hw] at wδ w23
  have δs : 2 * δ ≤ 3 * s := by
    have := rmul_le w23 δ0
    grind
  have s1 : 3 * s ≤ 1 := by grind
  have E0 := eS_nonneg (x := 2 * atS x c) (by have := atS_nonneg h0 c; grind) N
  have a := eS_add_le (x := 2 * atS x c) (y := 2 * δ) (by have := atS_nonneg h0 c; grind) (by grind) N
  have e : 2 * atS x c + 2 * δ = 2 * atS z c := by grind
  rw [e] at a
  have b := (eS_near (d := 2 * δ) (by grind) (by grind) N).2
  rw [hw, hs]
  have hxz : (1 - x) * (1 + z) = w + 2 * s := by grind
  rw [hxz]
  generalize eS (2 * atS x c) N = E at *
  generalize eS (2 * atS z c) N = E' at *
  generalize eS (2 * δ) N = D at *
  have k1 := rmul_le b (show 0 ≤ E by grind)
  have w0 : 0 ≤ w := by grind
  -- w (1 + 2d + 4dd) is at most (w + 2s)(1 + 9ss)
  have k2 : w * (1 + 2 * δ + 2 * δ * (2 * δ)) ≤ (w + 2 * s) * (1 + 9 * (s * s)) := by
    have m1 := rmul_le δs δ0
    have m2 := rmul_le δs s0
    have m3 := rmul_le s0 s0
    have m4 := rmul_le m3 w0
    have m5 := rmul_le m3 s0
    have m6 : 4 * (δ * δ) ≤ 9 * (s * s) := by grind
    have m7 := rmul_le m6 w0
    grind
  have k3 := rmul_le k2 (show 0 ≤ E by grind)
  have k4 := rmul_le (show E' ≤ E * (1 + 2 * δ + 2 * δ * (2 * δ)) by grind) w0
  grind
/-- n steps. -/
theorem steps_up {s : Rat} (h0 : 0 ≤ s) (c N : Nat) : ∀ n : Nat, 3 * (n * s) ≤ 1 → (1 - n * s) * eS (2 * atS (n * s) c) N ≤ (1 + n * s) * (1 + 9 * (s * s)) ^ n := by
  intro n
  induction n with
  | zero =>
    intro _
    have z : ((0 : Nat) : Rat) = 0 := rfl
    rw [z, Rat.pow_zero]
    have e : atS (0 * s) c = 0 := by unfold atS; grind
    rw [e]
    have e2 : ∀ N, eS (2 * 0) N = 1 := fun N => by
      induction N with
      | zero => rfl
      | succ N ih =>
        rw [eS_succ, ih]
        have := tk_succ (2 * 0) N
        have m0 : (0 : Rat) < ((N + 1 : Nat) : Rat) := rnat_pos (by omega)
        generalize ((N + 1 : Nat) : Rat) = m at *
        have : m * tk (2 * 0) (N + 1) = 0 := by grind
        grind
    rw [e2]
    grind
  | succ n ih =>
    intro hn
    have e : ((n + 1 : Nat) : Rat) = (n : Rat) + 1 := by exact_mod_cast rfl
    have n0 := rnat_nonneg n
    have ns := rmul_le h0 n0
    rw [e] at hn ⊢
    have i := ih (by grind)
    have st := step_up (x := n * s) (z := (n + 1) * s) (by grind) (by grind) hn c N
    rw [show ((n : Rat) + 1) * s - n * s = s by grind] at st
    rw [Rat.pow_succ]
    have W0 := (pow_small (u := 9 * (s * s)) (by have := rmul_le h0 h0; grind) n).2
    have q0 : 0 ≤ 9 * (s * s) := by have := rmul_le h0 h0; grind
    generalize eS (2 * atS (n * s) c) N = E at *
    generalize eS (2 * atS ((n + 1) * s) c) N = E' at *
    generalize (1 + 9 * (s * s)) ^ n = W at *
    generalize 9 * (s * s) = q at *
    have t : ((n : Rat) + 1) * s = n * s + s := by grind
    rw [t] at st hn ⊢
    generalize (n : Rat) * s = x at *
    refine rcancel (c := 1 + x) ?_ (by grind)
    have k := rmul_le i (show 0 ≤ (1 + (x + s)) * (1 + q) by
      have := rmul_le q0 (show 0 ≤ 1 + (x + s) by grind)
      grind)
    grind
/-- What is at most B/n for every n isn't above 0. -/
theorem rat_tiny {d B : Rat} (h : ∀ n : Nat, 0 < n → (n : Rat) * d ≤ B) : d ≤ 0 := by
  rcases Rat.le_total (a := d) (b := 0) with h1 | h1
  · exact h1
  · by_cases h2 : d = 0
    · rw [h2]; exact Rat.le_refl
    · have d0 : 0 < d := by grind
      obtain ⟨n, hn⟩ := rat_arch (B / d + 1)
      have hp : 0 < n + 1 := by omega
      have a := h (n + 1) hp
      have e : ((n + 1 : Nat) : Rat) = (n : Rat) + 1 := by exact_mod_cast rfl
      rw [e] at a
      have b := rmul_le hn (Rat.le_of_lt d0)
      have e2 : d * (B / d + 1) = B + d := by grind
      rw [e2] at b
      grind
/-- exp of twice atanh r isn't above (1 + r)/(1 - r). -/
theorem exp_at_le {r : Rat} (h0 : 0 ≤ r) (h1 : 3 * r ≤ 1) (c N : Nat) : (1 - r) * eS (2 * atS r c) N ≤ 1 + r := by
  have key : (1 - r) * eS (2 * atS r c) N - (1 + r) ≤ 0 := by
    refine rat_tiny (B := (1 - r) * eS (2 * atS r c) N) (fun n hn => ?_)
    have m0 := rnat_pos hn
    obtain ⟨i, hi, i1, i2, i3⟩ := inv_nat hn
    have e : (n : Rat) * (r * i) = r := by grind
    have st := steps_up (s := r * i) (by have := rmul_le i2 h0; grind) c N n (by rw [e]; exact h1)
    rw [e] at st
    obtain ⟨p1, p2⟩ := pow_small (u := 9 * (r * i * (r * i))) (by have a := rmul_le i2 h0; have := rmul_le (show 0 ≤ r * i by grind) (show 0 ≤ r * i by grind); grind) n
    have E0 := eS_nonneg (x := 2 * atS r c) (by have := atS_nonneg h0 c; grind) N
    obtain ⟨y0, y1⟩ := third h0 h1
    have e3 : (n : Rat) * (9 * (r * i * (r * i))) = 9 * (r * r) * i := by grind
    rw [e3] at p1
    have v1 : 9 * (r * r) * i ≤ i := by have := rmul_le y1 i2; grind
    have v0 : 0 ≤ 9 * (r * r) * i := by have := rmul_le y0 i2; grind
    generalize (1 + 9 * (r * i * (r * i))) ^ n = W at *
    generalize 9 * (r * r) * i = v at *
    generalize eS (2 * atS r c) N = E at *
    have B0 : 0 ≤ (1 - r) * E := by have := rmul_le (show 0 ≤ E by grind) (show 0 ≤ 1 - r by grind); grind
    have k1 := rmul_le st (show 0 ≤ 1 - v by grind)
    have k2 := rmul_le p1 (show 0 ≤ 1 + r by grind)
    have k3 := rmul_le v1 B0
    have k4 : (1 - r) * E - (1 + r) ≤ (1 - r) * E * i := by grind
    have k5 := rmul_le k4 (Rat.le_of_lt m0)
    have e4 : (n : Rat) * ((1 - r) * E * i) = (1 - r) * E := by
      rw [Rat.mul_comm ((1 - r) * E) i, ← Rat.mul_assoc, i1, Rat.one_mul]
    rw [e4] at k5
    exact k5
  grind
end Go.Proofs.YtngldpmnbdgkiaaDoor
