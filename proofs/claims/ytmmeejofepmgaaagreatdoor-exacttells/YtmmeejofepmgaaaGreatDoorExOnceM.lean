/- What the law ExactOnce rests on: numbers alone. -/
import Derived.Test.YtmmeejofepmgaaaGreatDoorExLaw
namespace Go.Proofs.YtmmeejofepmgaaaGreatDoor

theorem ex_first {V : Nat} {E : Int} {d : Dy} (hV : V % 2 = 1) (h1 : -1073741824 ≤ E) (h2 : E ≤ 1073741824) : ExIs V E 1 1 d ↔ d = ⟨false, V, E⟩ ∧ brkO (some ⟨false, V, E⟩) = true := by
  have key : ∀ (U : Nat) (f : Int), U % 2 = 1 → (ratC V E 1 U f 1 = 0 ↔ V = U ∧ E = f) := fun U f hU => by
    have h := ratC_pos (V := V) (e := E) (m := 1) (U := U) (f := f) (k := 1)
    rw [show ((1 : Nat) : Int) = 1 from rfl, Nat.pow_one, Nat.pow_one, Int.mul_one, Int.mul_one] at h
    rw [h]
    exact cq_odd hV hU
  constructor
  · rintro ⟨a1, a2, a3, a4, a5, a6⟩
    obtain ⟨q1, q2⟩ := (key d.V d.e a2).1 a6
    obtain ⟨g, U, f⟩ := d
    simp only at a1 q1 q2
    subst a1
    subst q1
    subst q2
    exact ⟨rfl, a5⟩
  · rintro ⟨rfl, h⟩
    exact ⟨rfl, hV, h1, h2, h, (key V E hV).2 ⟨rfl, rfl⟩⟩
theorem ex_zero {V : Nat} {E : Int} : ExIs V E 0 5 ⟨false, 1, 0⟩ := by
  refine ⟨rfl, rfl, by decide, by decide, by decide, ?_⟩
  have h := ratC_pos (V := V) (e := E) (m := 0) (U := 1) (f := 0) (k := 5)
  rw [show ((0 : Nat) : Int) = 0 from rfl] at h
  rw [h, Nat.pow_zero, Int.mul_zero, Nat.one_pow, Int.zero_mul]
  exact cq_self 1 0
theorem brk_two (t : Int) : brkO (some ⟨false, 1, t⟩) = decide (-1075 ≤ t ∧ t ≤ 1024) := by
  unfold brkO
  simp only
  rw [if_neg (by decide)]
  have hr : rtop 1 t = t := by
    unfold rtop
    rw [show blen 1 = 1 from by decide]
    show (1 : Int) - 1 + t = t
    omega
  rw [hr]
  unfold ru
  rw [hr]
  by_cases h : 1024 ≤ t
  · rw [if_pos h]
    exact decide_eq_decide.2 (by omega)
  · rw [if_neg h]
    exact decide_eq_decide.2 (by omega)
theorem ex_two {n m : Int} {d : Dy} (h1 : -1000000 ≤ n * m) (h2 : n * m ≤ 1000000) : ExIs 1 n m 1 d ↔ d = ⟨false, 1, n * m⟩ ∧ -1075 ≤ n * m ∧ n * m ≤ 1024 := by
  have key : ∀ (U : Nat) (f : Int), U % 2 = 1 → (ratC 1 n m U f 1 = 0 ↔ 1 = U ∧ n * m = f) := fun U f hU => by
    rcases Int.lt_or_le m 0 with hm | hm
    · obtain ⟨q, hq⟩ : ∃ q : Nat, m = -(q : Int) := ⟨(-m).toNat, by omega⟩
      subst hq
      rw [ratC_neg (by omega), Nat.one_pow, Nat.one_mul, Nat.pow_one, show f * ((1 : Nat) : Int) = f by simp, cq_odd (by decide) hU, Int.mul_neg]
      constructor
      · rintro ⟨a, b⟩; exact ⟨a, by omega⟩
      · rintro ⟨a, b⟩; exact ⟨a, by omega⟩
    · obtain ⟨q, rfl⟩ := Int.eq_ofNat_of_zero_le hm
      rw [ratC_pos, Nat.one_pow, Nat.pow_one, show f * ((1 : Nat) : Int) = f by simp]
      exact cq_odd (by decide) hU
  constructor
  · rintro ⟨a1, a2, a3, a4, a5, a6⟩
    obtain ⟨q1, q2⟩ := (key d.V d.e a2).1 a6
    obtain ⟨g, U, f⟩ := d
    simp only at a1 q1 q2
    subst a1
    subst q1
    subst q2
    rw [brk_two] at a5
    exact ⟨rfl, of_decide_eq_true a5⟩
  · rintro ⟨rfl, h⟩
    exact ⟨rfl, rfl, by show -1073741824 ≤ n * m; omega, by show n * m ≤ 1073741824; omega, by rw [brk_two]; exact decide_eq_true h, (key 1 (n * m) rfl).2 ⟨rfl, rfl⟩⟩
theorem sg_mk {g : Bool} {V : Nat} {e : Int} {d : Dy} (h : mk g V e = some d) : sgD d.neg d.V = sgD g V := by
  have hf := mk_fine h
  by_cases h0 : V = 0
  · have h1 := hf.2.2.1.2 h0
    unfold sgD
    rw [if_pos h0, if_pos h1]
  · obtain ⟨h1, h2, _⟩ := mk_pos h h0
    unfold sgD
    rw [if_neg h0, if_neg h2, h1]
end Go.Proofs.YtmmeejofepmgaaaGreatDoor
