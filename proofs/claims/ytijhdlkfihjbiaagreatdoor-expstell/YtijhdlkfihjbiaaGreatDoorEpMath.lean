/- Powers of e, held between two numbers: what they are against logarithms; what is split off as powers of two; the document's own. Numbers alone. -/
import Derived.Test.YtijhdlkfihjbiaaGreatDoorK6
namespace Go.Proofs.YtijhdlkfihjbiaaGreatDoor

/-- exp rises: what isn't above exp of a isn't above what isn't below it. -/
theorem ln_cancel {X D a : Rat} (hX : 0 ≤ X) (hD : 0 ≤ D) (h1 : LnLe X a) (h2 : LnGe D a) : X ≤ D := by
  obtain ⟨a1, b1, a10, b10, e1, k1⟩ := h1
  obtain ⟨a2, b2, a20, b20, e2, k2⟩ := h2
  have m := ELe.mul k1 k2 b10 a20 a10 b20 hX (by grind) (by grind) hD
  have e3 : b1 + a2 = a1 + b2 := by grind
  have e4 : X * 1 = X := by grind
  have e5 : 1 * D = D := by grind
  rw [e3, e4, e5] at m
  obtain ⟨E, hE⟩ : ∃ E : Rat, a1 + b2 = E := ⟨_, rfl⟩
  have E0 : 0 ≤ E := by grind
  rw [hE] at m
  clear k1 k2 e1 e2 e3 e4 e5 hE
  refine Classical.byContradiction fun hlt => ?_
  have hlt : D < X := by grind
  have X0 : 0 < X := by grind
  rcases Classical.em (D = 0) with hz | hz
  · obtain ⟨M, h⟩ := m 0 (1 / 2) (by grind) (by grind)
    rw [eS_zero, hz] at h
    grind
  · have D0 : 0 < D := by grind
    obtain ⟨r, hr⟩ : ∃ r : Rat, r * D = X := ⟨X / D, Rat.div_mul_cancel (Rat.ne_of_gt D0)⟩
    have r1 : 1 < r := by
      refine Classical.byContradiction fun h9 => ?_
      have h8 : r ≤ 1 := by grind
      have := rmul_le h8 (Rat.le_of_lt D0)
      grind
    obtain ⟨τ, hτ⟩ : ∃ τ : Rat, 2 * τ = r - 1 := ⟨(r - 1) / 2, by grind⟩
    have τ0 : 0 < τ := by grind
    obtain ⟨δ, hδ⟩ : ∃ δ : Rat, δ * r = τ := ⟨τ / r, Rat.div_mul_cancel (Rat.ne_of_gt (by grind))⟩
    have d0 : 0 < δ := by
      refine Classical.byContradiction fun h9 => ?_
      have h8 : δ ≤ 0 := by grind
      have := rmul_le h8 (show 0 ≤ r by grind)
      grind
    have d1 : δ ≤ 1 := by
      refine rcancel (c := r) ?_ (by grind)
      grind
    obtain ⟨B, B0, hB⟩ := eS_bd E E0
    have step : ∀ j : Nat, ∃ N, 1 + (j : Rat) * τ ≤ eS E N := by
      intro j
      induction j with
      | zero =>
        refine ⟨0, ?_⟩
        have e : ((0 : Nat) : Rat) = 0 := by exact_mod_cast rfl
        rw [eS_zero, e]
        grind
      | succ j ih =>
        obtain ⟨N, hN⟩ := ih
        obtain ⟨M, hM⟩ := m N δ d0 d1
        refine ⟨M, ?_⟩
        have n1 := eS_nonneg E0 N
        have e : ((j + 1 : Nat) : Rat) = (j : Rat) + 1 := by exact_mod_cast rfl
        rw [e]
        generalize eS E N = S at *
        generalize eS E M = U at *
        -- (1 - δ) r is 1 + τ
        have h3 : (1 + τ) * S ≤ U := by
          refine rcancel (c := D) ?_ D0
          have e2 : (1 - δ) * (S * X) = D * ((1 + τ) * S) := by
            rw [← hr]
            have : (1 - δ) * r = 1 + τ := by grind
            have e3 : (1 - δ) * (S * (r * D)) = D * (((1 - δ) * r) * S) := by grind
            rw [e3, this]
          rw [e2] at hM
          grind
        have := rmul_le n1 (Rat.le_of_lt τ0)
        grind
    obtain ⟨n, hn⟩ := rat_arch (B / τ)
    obtain ⟨N, hN⟩ := step n
    have hb := hB N
    have h2 := rmul_le hn (Rat.le_of_lt τ0)
    have e3 : τ * (B / τ) = B := by
      rw [Rat.mul_comm]; exact Rat.div_mul_cancel (Rat.ne_of_gt τ0)
    rw [e3] at h2
    grind
/-- A lower end of exp, an upper one. -/
theorem ep_lo {Z x : Rat} {c : Nat} (hx : 0 ≤ x) (hZ : 0 ≤ Z) (h : Z ≤ eS x c) : LnLe Z x := by
  refine ⟨x, 0, hx, by grind, by grind, fun N δ h0 h1 => ⟨c, ?_⟩⟩
  rw [eS_nought]
  have := rmul_le hZ (Rat.le_of_lt h0)
  grind
theorem ep_hi {W x : Rat} (hx : 0 ≤ x) (h : ∀ c, eS x c ≤ W) : LnGe W x := by
  refine ⟨x, 0, hx, by grind, by grind, fun N δ h0 h1 => ⟨0, ?_⟩⟩
  rw [eS_nought]
  have n1 := eS_nonneg hx N
  have := rmul_le (show 0 ≤ eS x N by grind) (Rat.le_of_lt h0)
  have := h N
  grind
/-- Of a little: exp of h isn't above 1 + 2h, exp of -h not below 1 - 2h. -/
theorem eS_little {h : Rat} (h0 : 0 ≤ h) (h1 : h ≤ 1) (c : Nat) : eS h c ≤ 1 + 2 * h := by
  cases c with
  | zero => rw [eS_zero]; grind
  | succ c =>
    have b := (ge_bd h0 h1 c 2 (by decide)).2
    have e2 : ((2 : Nat) : Rat) = 2 := by exact_mod_cast rfl
    rw [e2] at b
    have e : eS h (c + 1) = 1 + h * ge_ h c 2 := by
      show ge_ h (c + 1) 1 = _
      simp only [ge_]
      have e1 : ((1 : Nat) : Rat) = 1 := by exact_mod_cast rfl
      grind
    rw [e]
    have := rmul_le (show ge_ h c 2 ≤ 2 by grind) h0
    grind
theorem ep_more {h : Rat} (h0 : 0 ≤ h) (h1 : h ≤ 1) : LnGe (1 + 2 * h) h := ep_hi h0 (eS_little h0 h1)
theorem ep_less {h : Rat} (h0 : 0 ≤ h) (h1 : 2 * h ≤ 1) : LnLe (1 - 2 * h) (-h) := by
  refine ⟨0, h, by grind, h0, by grind, fun N δ d0 d1 => ⟨0, ?_⟩⟩
  rw [eS_nought]
  have b := eS_little h0 (by grind) N
  have n1 := eS_nonneg h0 N
  have m := rmul_le b (show 0 ≤ 1 - 2 * h by grind)
  have p : 0 ≤ eS h N * (1 - 2 * h) := by have := rmul_le (show 0 ≤ eS h N by grind) (show 0 ≤ 1 - 2 * h by grind); grind
  have q := rmul_le p (Rat.le_of_lt d0)
  have s := rmul_le h0 h0
  grind

/-- What Split tells of units L up to H, by so much ln 2 (c below, d above). -/
def SplitV (k L H : Int) (a b c d : Nat) : Prop := (a : Int) = (if 0 ≤ k then L - k * (d : Int) else L - k * (c : Int)) ∧ (b : Int) = (if 0 ≤ k then H - k * (c : Int) else H - k * (d : Int))
/-- exp of what is left, times a power of two: ends of exp of the whole. -/
theorem split_ends {s a b c d lo hi : Nat} {k L H : Int} (h1 : -1073741824 ≤ k) (h2 : k ≤ 1073741824) (hc : Ln2B s c d) (hE : ExB a b s lo hi) (hs : SplitV k L H a b c d) {l h X Y : Rat}
    (hl : l * ((2 ^ s : Nat) : Rat) = (L : Rat)) (hh : h * ((2 ^ s : Nat) : Rat) = (H : Rat)) (hX : X * ((2 ^ s : Nat) : Rat) = (lo : Rat) * tw k) (hY : Y * ((2 ^ s : Nat) : Rat) = (hi : Rat) * tw k) : LnLe X l ∧ LnGe Y h := by
  have p0 := rnat_pos (Nat.two_pow_pos s)
  obtain ⟨i, i0, hi1⟩ := rat_inv_pos p0
  have key : ∀ z : Rat, z * i * ((2 ^ s : Nat) : Rat) = z := fun z => by
    have : z * i * ((2 ^ s : Nat) : Rat) = z * (i * ((2 ^ s : Nat) : Rat)) := by grind
    rw [this, hi1]; grind
  have back : ∀ {z u : Rat}, z * ((2 ^ s : Nat) : Rat) = u → z = u * i := fun {z u} e => by
    have : z * ((2 ^ s : Nat) : Rat) * i = z := by
      have : z * ((2 ^ s : Nat) : Rat) * i = z * (i * ((2 ^ s : Nat) : Rat)) := by grind
      rw [this, hi1]; grind
    rw [← this, e]
  obtain ⟨t1, t2⟩ := two_ends hc (key (c : Rat)) (key (d : Rat))
  obtain ⟨e1, e2⟩ := tw_ends h1 h2 t1 t2
  have w0 := Rat.le_of_lt (tw_pos k)
  have ca := rnat_nonneg a
  have cb := rnat_nonneg b
  have cl := rnat_nonneg lo
  have ch := rnat_nonneg hi
  have i0' := Rat.le_of_lt i0
  -- the parts
  obtain ⟨cc, hcc⟩ := hE.1 ((a : Rat) * i) (by have := key (a : Rat); grind)
  have hW := hE.2 ((b : Rat) * i) (by have := key (b : Rat); grind)
  have za : 0 ≤ (a : Rat) * i := by have := rmul_le ca i0'; grind
  have zb : 0 ≤ (b : Rat) * i := by have := rmul_le cb i0'; grind
  have zl : 0 ≤ (lo : Rat) * i := by have := rmul_le cl i0'; grind
  have f1 : LnLe ((lo : Rat) * i) ((a : Rat) * i) := ep_lo (c := cc) za zl (by
    refine rcancel (c := ((2 ^ s : Nat) : Rat)) ?_ p0
    have := key (lo : Rat)
    grind)
  have f2 : LnGe ((hi : Rat) * i) ((b : Rat) * i) := ep_hi zb (fun M => by
    refine rcancel (c := ((2 ^ s : Nat) : Rat)) ?_ p0
    have := key (hi : Rat)
    have := hW M
    grind)
  have zh : 0 ≤ (hi : Rat) * i := by have := rmul_le ch i0'; grind
  have m1 := LnLe.mul zl w0 f1 e2
  have m2 := LnGe.mul zh w0 f2 e1
  have gX : X = (lo : Rat) * i * tw k := by rw [back hX]; grind
  have gY : Y = (hi : Rat) * i * tw k := by rw [back hY]; grind
  have ea : (a : Rat) = (if 0 ≤ k then (L : Rat) - (k : Rat) * (d : Rat) else (L : Rat) - (k : Rat) * (c : Rat)) := by
    have h := hs.1
    by_cases h0 : 0 ≤ k
    · rw [if_pos h0] at h ⊢
      have h9 : (L : Int) = (a : Int) + k * (d : Int) := by omega
      have : (L : Rat) = (a : Rat) + (k : Rat) * (d : Rat) := by rw [h9]; exact_mod_cast rfl
      grind
    · rw [if_neg h0] at h ⊢
      have h9 : (L : Int) = (a : Int) + k * (c : Int) := by omega
      have : (L : Rat) = (a : Rat) + (k : Rat) * (c : Rat) := by rw [h9]; exact_mod_cast rfl
      grind
  have eb : (b : Rat) = (if 0 ≤ k then (H : Rat) - (k : Rat) * (c : Rat) else (H : Rat) - (k : Rat) * (d : Rat)) := by
    have h := hs.2
    by_cases h0 : 0 ≤ k
    · rw [if_pos h0] at h ⊢
      have h9 : (H : Int) = (b : Int) + k * (c : Int) := by omega
      have : (H : Rat) = (b : Rat) + (k : Rat) * (c : Rat) := by rw [h9]; exact_mod_cast rfl
      grind
    · rw [if_neg h0] at h ⊢
      have h9 : (H : Int) = (b : Int) + k * (d : Int) := by omega
      have : (H : Rat) = (b : Rat) + (k : Rat) * (d : Rat) := by rw [h9]; exact_mod_cast rfl
      grind
  have gl := back hl
  have gh := back hh
  rw [gX, gY, gl, gh]
  by_cases h0 : 0 ≤ k
  · rw [if_pos h0] at m1 m2 ea eb
    constructor
    · have e : (L : Rat) * i = (a : Rat) * i + (k : Rat) * ((d : Rat) * i) := by rw [ea]; grind
      rw [e]
      exact m1
    · have e : (H : Rat) * i = (b : Rat) * i + (k : Rat) * ((c : Rat) * i) := by rw [eb]; grind
      rw [e]
      exact m2
  · rw [if_neg h0] at m1 m2 ea eb
    constructor
    · have e : (L : Rat) * i = (a : Rat) * i + (k : Rat) * ((c : Rat) * i) := by rw [ea]; grind
      rw [e]
      exact m1
    · have e : (H : Rat) * i = (b : Rat) * i + (k : Rat) * ((d : Rat) * i) := by rw [eb]; grind
      rw [e]
      exact m2
end Go.Proofs.YtijhdlkfihjbiaaGreatDoor
