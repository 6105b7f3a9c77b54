/- What the law ExactSo rests on: numbers, and append([]uint64{1}, a...). -/
import Derived.Test.YtmmeejofepmgaaaGreatDoorExOnceM
import Derived.Test.YtmmeejofepmgaaaGreatDoorK5
import Derived.Test.YtmmeejofepmgaaaGreatDoorK2
namespace Go.Proofs.YtmmeejofepmgaaaGreatDoor
open Go.RowKit

theorem ratC_root {V : Nat} {E i : Int} {U : Nat} {F : Int} {n : Nat} (hn : n ≠ 0) : ratC (V ^ n) (E * n) i U F n = ratC V E i U F 1 := by
  rcases Int.lt_or_le i 0 with hi | hi
  · obtain ⟨m, hm⟩ : ∃ m : Nat, i = -(m : Int) := ⟨(-i).toNat, by omega⟩
    subst hm
    rw [ratC_neg (by omega), ratC_neg (by omega)]
    have h := cq_pow (V := 1) (e := 0) (U := V ^ m * U) (f := E * m + F) hn
    rw [Nat.one_pow, Int.zero_mul, Nat.mul_pow, Int.add_mul] at h
    rw [Nat.pow_one, show F * ((1 : Nat) : Int) = F by simp, ← h, ← Nat.pow_mul, ← Nat.pow_mul, Nat.mul_comm n m, Int.mul_right_comm]
  · obtain ⟨m, rfl⟩ := Int.eq_ofNat_of_zero_le hi
    rw [ratC_pos, ratC_pos]
    have h := cq_pow (V := V ^ m) (e := E * m) (U := U) (f := F) hn
    rw [Nat.pow_one, show F * ((1 : Nat) : Int) = F by simp, ← h, ← Nat.pow_mul, ← Nat.pow_mul, Nat.mul_comm n m, Int.mul_right_comm]
theorem ex_root {V : Nat} {E i : Int} {n : Nat} {d : Dy} (hn : n ≠ 0) : ExIs (V ^ n) (E * n) i n d ↔ ExIs V E i 1 d := by
  unfold ExIs
  rw [ratC_root hn]
theorem ex_times {V : Nat} {E i : Int} {n t : Nat} {d : Dy} (ht : t ≠ 0) : ExIs V E (i * t) (n * t) d ↔ ExIs V E i n d := by
  unfold ExIs
  rw [ratC_times ht]
/-- Two answers to one question. -/
theorem pow_one_answer {P P' : Dy → Prop} {V : Nat} {E i : Int} {k : Nat} {b b' : Bool} {g g' : Bool} {U U' : Nat} {F F' : Int} (hV : 0 < V) (hk : k ≠ 0) (hP : ∀ d, P d ↔ ExIs V E i k d) (hP' : ∀ d, P' d ↔ ExIs V E i k d)
    (h : (b = true ∧ P ⟨g, U, F⟩) ∨ (b = false ∧ g = false ∧ U = 0 ∧ F = 0 ∧ ∀ d, ¬ P d)) (h' : (b' = true ∧ P' ⟨g', U', F'⟩) ∨ (b' = false ∧ g' = false ∧ U' = 0 ∧ F' = 0 ∧ ∀ d, ¬ P' d)) : b = b' ∧ g = g' ∧ U = U' ∧ F = F' := by
  rcases h with ⟨h1, h2⟩ | ⟨h1, h2, h3, h4, h5⟩
  · rcases h' with ⟨k1, k2⟩ | ⟨k1, _, _, _, k5⟩
    · have := ((hP _).1 h2).uniq hV hk ((hP' _).1 k2)
      injection this with a1 a2 a3
      exact ⟨by rw [h1, k1], a1, a2, a3⟩
    · exact absurd ((hP' _).2 ((hP _).1 h2)) (k5 _)
  · rcases h' with ⟨k1, k2⟩ | ⟨k1, k2, k3, k4, k5⟩
    · exact absurd ((hP _).2 ((hP' _).1 k2)) (h5 _)
    · exact ⟨by rw [h1, k1], by rw [h2, k2], by rw [h3, k3], by rw [h4, k4]⟩
theorem mulO_small {V j : Nat} {E : Int} (hV : V % 2 = 1) (hb : blen V ≤ 12) (h1 : -60 ≤ E) (h2 : E ≤ 60) (hj : j ≤ 12) : mulO (mk false (V ^ j) (E * j)) (mk false V E) = some ⟨false, V ^ (j + 1), E * ((j + 1 : Nat) : Int)⟩ := by
  have he := abs_mul_le (e := E) (m := j) (L := 60 * 12) (Nat.mul_le_mul (by omega) hj)
  have he2 := abs_mul_le (e := E) (m := j + 1) (L := 60 * 13) (Nat.mul_le_mul (by omega) (by omega))
  have m1 := mk_odd_self (d := ⟨false, V ^ j, E * j⟩) (Or.inl ⟨V ^ j / 2, by have := odd_pow hV j; show V ^ j = _; omega⟩) (by show -1073741824 ≤ E * j; omega) (by show E * j ≤ 1073741824; omega)
  have m2 := mk_odd_self (d := ⟨false, V, E⟩) (Or.inl ⟨V / 2, by show V = _; omega⟩) (by show -1073741824 ≤ E; omega) (by show E ≤ 1073741824; omega)
  simp only at m1 m2
  rw [m1, m2]
  show mulB _ _ = _
  have hbl : blen (V ^ j) ≤ 145 := by
    have h9 := pow_bits V j
    have h8 : blen V * j ≤ 12 * 12 := Nat.mul_le_mul hb hj
    refine blen_le_iff.2 (Nat.lt_of_le_of_lt h9 (Nat.pow_lt_pow_right (by decide) (by omega)))
  unfold mulB
  simp only
  rw [if_neg (by intro h; omega)]
  unfold toldD
  have hn0 : V ^ j * V ≠ 0 := fun h9 => by
    have h8 := odd_pow hV (j + 1)
    rw [Nat.pow_succ, h9] at h8
    exact absurd h8 (by decide)
  rw [if_neg hn0]
  have hs : E * (j : Int) + E = E * ((j + 1 : Nat) : Int) := by rw [Int.natCast_add, Int.mul_add]; simp
  rw [hs, if_neg (by omega), Nat.pow_succ]
  rfl
theorem brk_e {V : Nat} {E : Int} (hV : V % 2 = 1) (h : brkO (some ⟨false, V, E⟩) = true) : -1075 ≤ E := by
  unfold brkO at h
  simp only at h
  rw [if_neg (by omega)] at h
  by_cases h1 : 1024 ≤ rtop V E
  · rw [if_pos h1] at h
    have := of_decide_eq_true h
    omega
  · rw [if_neg h1] at h
    have := of_decide_eq_true h
    unfold ru at this
    omega
/-- A number with 1 in its first limb, and another, aren't one power both. -/
theorem not_both {V : Nat} {E i : Int} {k U : Nat} {F : Int} (hV : 0 < V) (hk : k ≠ 0) (hU : U % 2 = 1) (h1 : -1075 ≤ F) (h2 : F ≤ 1073741824) (h : ratC V E i U F k = 0) : ratC V E i (1 + 18446744073709551616 * U) (F - 64) k ≠ 0 := fun h9 => by
  rw [ratC_sz hV (by omega) (by omega)] at h h9
  have h8 := odd_size (by omega) hU (by omega) (by omega) (by omega) h2 (cS_one hV hk h9 h)
  omega
theorem app_head (A : Option Addr) (n c : Nat) (xs : List Nat) (w : World) (hA : Lim w A n c xs) (hn : n ≤ 1000000) :
    ∃ A1 c1 w', (Builtin.append_ #[22, 22] 22 #[.slice (some ⟨w.heap.size, 0, none⟩) 1 1, .slice A n c]).run Tryz.prog (w.alloc (.cells #[.int .u64 1] 65)) = .ok (.slice A1 (1 + n) c1) w' ∧
      Below w.heap.size w w' ∧ Lim w' A1 (1 + n) c1 (1 :: xs) := by
  have hb : Below w.heap.size w (w.alloc (.cells #[.int .u64 1] 65)) := (Below.refl _ _).alloc (Nat.le_refl _) _
  have hown : Own .u64 65 (w.alloc (.cells #[.int .u64 1] 65)) w.heap.size (.slice (some ⟨w.heap.size, 0, none⟩) 1 1) [1] :=
    ⟨rfl, Or.inr ⟨w.heap.size, 1, #[.int .u64 1], rfl, Nat.le_refl _, heap_alloc_new w _, Nat.le_refl _, by unfold maxLen; omega, rfl, rfl⟩⟩
  obtain ⟨v', w', hrun, ho, hb'⟩ := run_app (P := Tryz.prog) (T := 22) (ty := 22) Tryz.underlying22 info64 hown (hA.below hb).toRow hb.size (by simp; omega) (by simp; omega)
  obtain ⟨A1, c1, rfl, hr⟩ := ho.row
  have el : ([1] ++ xs).length = 1 + n := by rw [List.length_append, hA.len]; rfl
  rw [el] at hrun hr
  exact ⟨A1, c1, w', hrun, hb.trans hb', hr.toLim (Words.cons (by decide) hA.words)⟩

/-- The builtin append at an operation that is ready. -/
theorem oper_app {P : Program} {w w' : World} {o : Oper} {a : Act} {K : Act → World → Prop} {Q : Exit → Act → World → Prop} {s x : Operand} {t : TypeId} {v1 v2 v' : Value}
    (ho : o.op = .call { callee := .builtin .append, args := #[s, x], argTypes := #[t, t] }) (hs : a.eval s = v1) (hx : a.eval x = v2)
    (hrun : (Builtin.append_ #[t, t] o.type #[v1, v2]).run P w = .ok v' w') (h : K (a.put o.dst v') w') : o.wp P a w K Q := by
  unfold Oper.wp execOp
  simp only [ho, resolve, invoke, builtin, Sem.run_bind, Sem.run_pure, Result.andThen_ok, List.map_toArray, List.map_cons, List.map_nil, hs, hx, hrun]
  exact h


end Go.Proofs.YtmmeejofepmgaaaGreatDoor
