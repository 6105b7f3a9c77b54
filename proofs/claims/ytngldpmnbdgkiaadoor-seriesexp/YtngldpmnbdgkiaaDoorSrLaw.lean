/- What the laws of layer 12 ask of the package series; planimeterlaw12.alive, wide and holds. -/
import Derived.Test.YtngldpmnbdgkiaaDoorSrRefX
import Derived.Test.YtngldpmnbdgkiaaDoorK1
import Derived.Test.YtngldpmnbdgkiaaDoorK3
import Derived.Test.YtngldpmnbdgkiaaDoorK2
namespace Go.Proofs.YtngldpmnbdgkiaaDoor
open Go.RowKit

/-- Two lists and an error. -/
def TwoTold (w : World) (Q : Nat → Nat → Nat → Nat → Int → Prop) (e : Ending) (w' : World) : Prop :=
  ∃ A1 m1 c1 zs A2 m2 c2 us r, e = .returned (.tuple #[.slice A1 m1 c1, .slice A2 m2 c2, .int .i64 r]) ∧ m1 ≤ 250 ∧ m2 ≤ 250 ∧ Lim w' A1 m1 c1 zs ∧ Lim w' A2 m2 c2 us ∧ Below w.heap.size w w' ∧ Q m1 (val zs) m2 (val us) r
/-- Between: atanh of num divided by den, times 2^s. -/
def AtB (X Y s lo hi : Nat) : Prop := ∀ x : Rat, x * (Y : Rat) = (X : Rat) → (∃ c, (lo : Rat) ≤ ((2 ^ s : Nat) : Rat) * atS x c) ∧ ∀ c, ((2 ^ s : Nat) : Rat) * atS x c ≤ (hi : Rat)
def AtOk (X Y : Nat) (s : Int) : Prop := (8 ≤ s ∧ s ≤ 9000) ∧ blen X ≤ 4096 ∧ blen Y ≤ 4096 ∧ Y ≠ 0 ∧ 3 * X ≤ Y
/-- The contract of series.Atanh. -/
def AtanhMeets : Prop := ∀ (A : Option Addr) (n c : Nat) (xs : List Nat) (B : Option Addr) (m d : Nat) (ys : List Nat) (s : Int) (w : World), Lim w A n c xs → Lim w B m d ys → n ≤ 70 → m ≤ 70 → Tab w → -9223372036854775808 ≤ s → s ≤ 9223372036854775807 →
  Calls Tryd.prog 8 #[.slice A n c, .slice B m d, .int .i64 s] w (TwoTold w fun m1 lo m2 hi r =>
    (AtOk (val xs) (val ys) s ∧ r = 0 ∧ AtB (val xs) (val ys) s.toNat lo hi ∧ lo ≤ hi ∧ hi - lo ≤ s.toNat + 64) ∨ (¬ AtOk (val xs) (val ys) s ∧ r = 1 ∧ m1 = 0 ∧ m2 = 0))
/-- The contract of series.Ln2. -/
def Ln2B (s lo hi : Nat) : Prop := ∀ x : Rat, 3 * x = 1 → (∃ c, (lo : Rat) ≤ ((2 ^ s : Nat) : Rat) * (2 * atS x c)) ∧ ∀ c, ((2 ^ s : Nat) : Rat) * (2 * atS x c) ≤ (hi : Rat)
def Ln2Meets : Prop := ∀ (s : Int) (w : World), Tab w → -9223372036854775808 ≤ s → s ≤ 9223372036854775807 →
  Calls Tryd.prog 24 #[.int .i64 s] w (TwoTold w fun m1 lo m2 hi r =>
    ((8 ≤ s ∧ s ≤ 9000) ∧ r = 0 ∧ Ln2B s.toNat lo hi ∧ lo ≤ hi ∧ hi - lo ≤ 2 * s.toNat + 128) ∨ (¬ (8 ≤ s ∧ s ≤ 9000) ∧ r = 1 ∧ m1 = 0 ∧ m2 = 0))
/-- The contract of series.Exp. -/
def ExB (a b s lo hi : Nat) : Prop := (∀ x : Rat, ((2 ^ s : Nat) : Rat) * x = (a : Rat) → ∃ c, (lo : Rat) ≤ ((2 ^ s : Nat) : Rat) * eS x c) ∧ ∀ x : Rat, ((2 ^ s : Nat) : Rat) * x = (b : Rat) → ∀ c, ((2 ^ s : Nat) : Rat) * eS x c ≤ (hi : Rat)
def ExOk (a b : Nat) (s : Int) : Prop := (8 ≤ s ∧ s ≤ 9000) ∧ a ≤ b ∧ b ≤ 2 ^ s.toNat
def ExpMeets : Prop := ∀ (A : Option Addr) (n c : Nat) (xs : List Nat) (B : Option Addr) (m d : Nat) (ys : List Nat) (s : Int) (w : World), Lim w A n c xs → Lim w B m d ys → n ≤ 150 → m ≤ 150 → Tab w → -9223372036854775808 ≤ s → s ≤ 9223372036854775807 →
  Calls Tryd.prog 17 #[.slice A n c, .slice B m d, .int .i64 s] w (TwoTold w fun m1 lo m2 hi r =>
    (ExOk (val xs) (val ys) s ∧ r = 0 ∧ ExB (val xs) (val ys) s.toNat lo hi ∧ lo ≤ hi ∧ (val xs = val ys → hi - lo ≤ 4 * s.toNat + 64)) ∨ (¬ ExOk (val xs) (val ys) s ∧ r = 1 ∧ m1 = 0 ∧ m2 = 0))

/-- ln 2 times 2^8 is between 177 and 178. -/
theorem ln2_near {lo hi : Nat} (h : Ln2B 8 lo hi) : lo ≤ 177 ∧ 178 ≤ hi := by
  obtain ⟨x, hx⟩ : ∃ x : Rat, 3 * x = 1 := ⟨1 / 3, by grind⟩
  obtain ⟨⟨c, h1⟩, h2⟩ := h x hx
  have x0 : 0 ≤ x := by grind
  have x1 : 3 * x ≤ 1 := by grind
  have e8 : ((2 ^ 8 : Nat) : Rat) = 256 := by exact_mod_cast rfl
  rw [e8] at h1 h2
  obtain ⟨y0, y1⟩ := third x0 x1
  -- three terms, and what follows them
  have t : atS x 3 = x * (1 + x * x * (1 / 3 + x * x * (1 / 5))) := by
    unfold atS
    simp only [hh]
    have e1 : ((2 * 0 + 1 : Nat) : Rat) = 1 := by exact_mod_cast rfl
    have e3 : ((2 * (0 + 1) + 1 : Nat) : Rat) = 3 := by exact_mod_cast rfl
    have e5 : ((2 * (0 + 1 + 1) + 1 : Nat) : Rat) = 5 := by exact_mod_cast rfl
    rw [e1, e3, e5]
    grind
  have hx' : x = 1 / 3 := by grind
  have tv : atS x 3 = 1 / 3 * (1 + 1 / 9 * (1 / 3 + 1 / 45)) := by rw [t, hx']; grind
  constructor
  · have h3 : atS x c ≤ atS x 3 + 1 / 1000 := by
      have e : atS x c ≤ atS x (3 + c) := by rw [Nat.add_comm]; exact atS_mono x0 x1 c 3
      have q := hh_tail y0 y1 3 c 0
      have q1 := rmul_le q x0
      have q2 : (x * x) ^ 3 = 1 / 729 := by
        rw [hx']
        have : (1 / 3 * (1 / 3) : Rat) = 1 / 9 := by grind
        rw [this]
        simp only [Rat.pow_succ, Rat.pow_zero]
        grind
      unfold atS at e tv ⊢
      rw [q2] at q1
      grind
    have h4 : (lo : Rat) < 178 := by grind
    have h5 : lo < 178 := by exact_mod_cast h4
    omega
  · have h3 := h2 3
    rw [tv] at h3
    have h4 : (177 : Rat) < (hi : Rat) := by grind
    have h5 : 177 < hi := by exact_mod_cast h4
    omega
end Go.Proofs.YtngldpmnbdgkiaaDoor
