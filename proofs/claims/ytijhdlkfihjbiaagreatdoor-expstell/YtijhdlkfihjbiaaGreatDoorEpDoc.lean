/- The document's exp of layer 14: how near it is. Numbers alone. -/
import Derived.Test.YtijhdlkfihjbiaaGreatDoorEpMath
namespace Go.Proofs.YtijhdlkfihjbiaaGreatDoor

/-- A power of two, by ln 2 as the document reckons it, with what that leaves open as a factor. -/
theorem ep_twos {P T : Nat} {k : Int} {v h : Rat} (h1 : -1073741824 ≤ k) (h2 : k ≤ 1073741824) (hP : 0 < P)
    (t1 : ∀ x : Rat, (P : Rat) * x = (T : Rat) → LnGe 2 x) (t2 : ∀ x : Rat, (P : Rat) * x = (T : Rat) + 16 → LnLe 2 x)
    (hv : (P : Rat) * v = (T : Rat)) (hh : (P : Rat) * h = 16 * (k.natAbs : Rat)) (hh1 : 2 * h ≤ 1) :
    LnGe ((1 + 2 * h) * tw k) ((k : Rat) * v) ∧ LnLe ((1 - 2 * h) * tw k) ((k : Rat) * v) := by
  have p0 := rnat_pos hP
  obtain ⟨i, i0, hi⟩ := inv_of p0
  have n0 := rnat_nonneg k.natAbs
  have h0 : 0 ≤ h := rcancel (c := (P : Rat)) (by grind) p0
  obtain ⟨u, hu⟩ : ∃ u : Rat, (P : Rat) * u = (T : Rat) + 16 := ⟨i * ((T : Rat) + 16), by
    have : (P : Rat) * (i * ((T : Rat) + 16)) = (P * i) * ((T : Rat) + 16) := by grind
    rw [this, hi]; grind⟩
  obtain ⟨e1, e2⟩ := tw_ends h1 h2 (t1 v hv) (t2 u hu)
  have w0 := Rat.le_of_lt (tw_pos k)
  have m1 := LnGe.mul (by grind) w0 (ep_more h0 (by grind)) e1
  have m2 := LnLe.mul (by grind) w0 (ep_less h0 hh1) e2
  -- u is 16 parts above v
  have hd : (P : Rat) * (u - v) = 16 := by grind
  by_cases hk : 0 ≤ k
  · rw [if_pos hk] at m1 m2
    have ek : (k : Rat) = (k.natAbs : Rat) := by
      have : k = ((k.natAbs : Nat) : Int) := by omega
      rw [show (k : Rat) = (((k.natAbs : Nat) : Int) : Rat) by rw [← this]]
      exact_mod_cast rfl
    have eh : h = (k : Rat) * (u - v) := by
      refine rat_eq_of (c := (P : Rat)) p0 ?_
      have : (P : Rat) * ((k : Rat) * (u - v)) = (k : Rat) * (P * (u - v)) := by grind
      rw [this, hd, hh, ek]
      grind
    constructor
    · refine LnGe.less ?_ m1 (by grind)
      have := rmul_le w0 (show 0 ≤ 1 + 2 * h by grind)
      grind
    · refine LnLe.more m2 ?_
      rw [show -h + (k : Rat) * u = (k : Rat) * v + ((k : Rat) * (u - v) - h) by grind, ← eh]
      grind
  · rw [if_neg hk] at m1 m2
    have ek : (k : Rat) = -(k.natAbs : Rat) := by
      have : k = -((k.natAbs : Nat) : Int) := by omega
      rw [show (k : Rat) = ((-((k.natAbs : Nat) : Int) : Int) : Rat) by rw [← this]]
      rw [Rat.intCast_neg]
      exact_mod_cast rfl
    have eh : h = -((k : Rat) * (u - v)) := by
      refine rat_eq_of (c := (P : Rat)) p0 ?_
      have : (P : Rat) * (-((k : Rat) * (u - v))) = -(k : Rat) * (P * (u - v)) := by grind
      rw [this, hd, hh, ek]
      grind
    constructor
    · refine LnGe.less ?_ m1 ?_
      · have := rmul_le w0 (show 0 ≤ 1 + 2 * h by grind)
        grind
      · rw [show h + (k : Rat) * u = (k : Rat) * v + ((k : Rat) * (u - v) + h) by grind]
        grind
    · refine LnLe.more m2 ?_
      grind
/-- The document's exp, and so much off either way, against an interval's ends. -/
theorem doc_exp {P T Z M c : Nat} {k : Int} {x v l n lo hi X off : Rat} (h1 : -1073741824 ≤ k) (h2 : k ≤ 1073741824) (hP : 16 ≤ P) (hk : 32 * k.natAbs ≤ P)
    (t1 : ∀ x : Rat, (P : Rat) * x = (T : Rat) → LnGe 2 x) (t2 : ∀ x : Rat, (P : Rat) * x = (T : Rat) + 16 → LnLe 2 x)
    (hv : (P : Rat) * v = (T : Rat)) (hx : (P : Rat) * x = (M : Rat)) (x1 : x ≤ 1)
    (z1 : (Z : Rat) ≤ (P : Rat) * eS x c) (z2 : ∀ N, (P : Rat) * eS x N ≤ (Z : Rat) + 8)
    (hl1 : (M : Rat) ≤ (P : Rat) * l) (hl2 : (P : Rat) * l ≤ (M : Rat) + 1) (hn : n = l + (k : Rat) * v)
    (hX : (P : Rat) * X = (Z : Rat) * tw k) (hoff : (16 + 128 * (k.natAbs : Rat)) * tw k ≤ (P : Rat) * off)
    (lo0 : 0 ≤ lo) (hi0 : 0 ≤ hi) (hlo : LnLe lo n) (hhi : LnGe hi n) : lo ≤ X + off ∧ X - off ≤ hi := by
  have p0 := rnat_pos (show 0 < P by omega)
  have p16 : (16 : Rat) ≤ (P : Rat) := by exact_mod_cast hP
  obtain ⟨i, i0, hi1⟩ := inv_of p0
  have key : ∀ z : Rat, (P : Rat) * (i * z) = z := fun z => by
    have : (P : Rat) * (i * z) = (P * i) * z := by grind
    rw [this, hi1]; grind
  have n0 := rnat_nonneg k.natAbs
  have m0 := rnat_nonneg M
  have zz := rnat_nonneg Z
  have x0 : 0 ≤ x := rcancel (c := (P : Rat)) (by grind) p0
  have hk' : 32 * (k.natAbs : Rat) ≤ (P : Rat) := by
    have : ((32 * k.natAbs : Nat) : Rat) = 32 * (k.natAbs : Rat) := by exact_mod_cast rfl
    rw [← this]
    exact_mod_cast hk
  obtain ⟨h, hh⟩ : ∃ h : Rat, (P : Rat) * h = 16 * (k.natAbs : Rat) := ⟨_, key _⟩
  have hh0 : 0 ≤ h := rcancel (c := (P : Rat)) (by grind) p0
  have hh1 : 2 * h ≤ 1 := rcancel (c := (P : Rat)) (by grind) p0
  obtain ⟨b1, b2⟩ := ep_twos h1 h2 (by omega) t1 t2 hv hh hh1
  have w0 := tw_pos k
  obtain ⟨g, hg⟩ : ∃ g : Rat, (P : Rat) * g = 1 := ⟨i, hi1⟩
  have g0 : 0 ≤ g := rcancel (c := (P : Rat)) (by grind) p0
  have g1 : g ≤ 1 := rcancel (c := (P : Rat)) (by grind) p0
  have g16 : 16 * g ≤ 1 := rcancel (c := (P : Rat)) (by grind) p0
  -- the rest's exp
  obtain ⟨A, hA⟩ : ∃ A : Rat, (P : Rat) * A = (Z : Rat) := ⟨_, key _⟩
  obtain ⟨B, hB⟩ : ∃ B : Rat, (P : Rat) * B = (Z : Rat) + 8 := ⟨_, key _⟩
  have A0 : 0 ≤ A := rcancel (c := (P : Rat)) (by grind) p0
  have B0 : 0 ≤ B := rcancel (c := (P : Rat)) (by grind) p0
  have f1 : LnLe A x := ep_lo (c := c) x0 A0 (rcancel (c := (P : Rat)) (by grind) p0)
  have f2 : LnGe B x := ep_hi x0 (fun N => rcancel (c := (P : Rat)) (by have := z2 N; grind) p0)
  have f3 := LnGe.mul B0 (by grind) f2 (ep_more g0 g1)
  have xl : x ≤ l := rcancel (c := (P : Rat)) (by grind) p0
  have lx : l ≤ x + g := rcancel (c := (P : Rat)) (by grind) p0
  have bb : 0 ≤ B * (1 + 2 * g) := by have := rmul_le B0 (show 0 ≤ 1 + 2 * g by grind); grind
  have hw1 : 0 ≤ (1 + 2 * h) * tw k := by have := rmul_le (Rat.le_of_lt w0) (show 0 ≤ 1 + 2 * h by grind); grind
  have hw2 : 0 ≤ (1 - 2 * h) * tw k := by have := rmul_le (Rat.le_of_lt w0) (show 0 ≤ 1 - 2 * h by grind); grind
  have up := LnGe.mul bb hw1 (LnGe.less bb f3 lx) b1
  have dn := LnLe.mul A0 hw2 (LnLe.more f1 xl) b2
  rw [← hn] at up dn
  have c1 := ln_cancel lo0 (by have := rmul_le hw1 bb; grind) hlo up
  have c2 := ln_cancel (by have := rmul_le hw2 A0; grind) hi0 dn hhi
  -- how great exp of the rest is
  have b3 := (ge_bd x0 x1 c 1 (by decide)).2
  have e11 : ((1 : Nat) : Rat) = 1 := by exact_mod_cast rfl
  rw [e11] at b3
  have b4 : eS x c ≤ 3 := by
    have : eS x c = ge_ x c 1 := rfl
    rw [this]; grind
  have A3 : A ≤ 3 := by
    refine rcancel (c := (P : Rat)) ?_ p0
    have := rmul_le b4 (Rat.le_of_lt p0)
    grind
  have eB : B = A + 8 * g := by
    refine rat_eq_of (c := (P : Rat)) p0 ?_
    have : (P : Rat) * (A + 8 * g) = P * A + 8 * (P * g) := by grind
    rw [this, hA, hg, hB]; grind
  have eX : X = A * tw k := by
    refine rat_eq_of (c := (P : Rat)) p0 ?_
    have : (P : Rat) * (A * tw k) = (P * A) * tw k := by grind
    rw [this, hA, hX]
  have eh : h = 16 * (k.natAbs : Rat) * g := by
    refine rat_eq_of (c := (P : Rat)) p0 ?_
    have : (P : Rat) * (16 * (k.natAbs : Rat) * g) = 16 * (k.natAbs : Rat) * (P * g) := by grind
    rw [this, hg, hh]; grind
  have eo : (16 + 128 * (k.natAbs : Rat)) * g * tw k ≤ off := by
    refine rcancel (c := (P : Rat)) ?_ p0
    have : (P : Rat) * ((16 + 128 * (k.natAbs : Rat)) * g * tw k) = (16 + 128 * (k.natAbs : Rat)) * tw k * (P * g) := by grind
    rw [this, hg]; grind
  generalize tw k = t at *
  generalize (k.natAbs : Rat) = N at *
  clear hlo hhi up dn f1 f2 f3 b1 b2 t1 t2 z1 z2
  have gN : 0 ≤ g * N := by have := rmul_le n0 g0; grind
  constructor
  · -- (A + 8g)(1 + 2g) is at most A + 15g + .., that times 1 + 2h at most 128 N g more
    have s1 : B * (1 + 2 * g) ≤ A + 15 * g := by
      have q1 := rmul_le A3 g0
      have q2 := rmul_le g16 g0
      rw [eB]
      grind
    have s2 : B * (1 + 2 * g) * (1 + 2 * h) ≤ A + (16 + 128 * N) * g := by
      have q1 := rmul_le s1 (show 0 ≤ 1 + 2 * h by grind)
      have q2 := rmul_le (show A + 15 * g ≤ 4 by grind) (show 0 ≤ 2 * h by grind)
      have q3 : (1 + 2 * h) * (A + 15 * g) ≤ A + (16 + 128 * N) * g := by
        have : 2 * h * 4 = 128 * (g * N) := by rw [eh]; grind
        grind
      grind
    have s3 := rmul_le s2 (Rat.le_of_lt w0)
    have e : B * (1 + 2 * g) * ((1 + 2 * h) * t) = t * (B * (1 + 2 * g) * (1 + 2 * h)) := by grind
    rw [e] at c1
    rw [eX]
    grind
  · have s2 : A - (16 + 128 * N) * g ≤ A * (1 - 2 * h) := by
      have q2 := rmul_le A3 (show 0 ≤ 2 * h by grind)
      have : 2 * h * 3 = 96 * (g * N) := by rw [eh]; grind
      grind
    have s3 := rmul_le s2 (Rat.le_of_lt w0)
    have e : A * ((1 - 2 * h) * t) = t * (A * (1 - 2 * h)) := by grind
    rw [e] at c2
    rw [eX]
    grind
end Go.Proofs.YtijhdlkfihjbiaaGreatDoor
