/- The walks of planimeterlaw15.Near and Of. -/
import Derived.Test.YtafgooiakmmfkaaDoorK2
namespace Go.Proofs.YtafgooiakmmfkaaDoor
open Go.RowKit

/-- A struct of two dyads and a list of both. -/
abbrev J15 (w : World) (g1 : Bool) (A1 : Option Addr) (n1 c1 : Nat) (e1 : Int) (g2 : Bool) (A2 : Option Addr) (n2 c2 : Nat) (e2 : Int) : World :=
  (w.alloc (.cells #[.bool g1, .slice A1 n1 c1, .int .i64 e1, .bool g2, .slice A2 n2 c2, .int .i64 e2] 26)).alloc (.cells #[.bool g1, .slice A1 n1 c1, .int .i64 e1, .bool g2, .slice A2 n2 c2, .int .i64 e2] 24)
theorem alloc_top (u : World) (o : Obj) (k : Nat) (hk : u.heap.size = k) : (u.alloc o).heap[k]? = some o := by
  subst hk
  show (u.heap.push _)[u.heap.size]? = _
  simp
theorem six_at {u : World} {b t : Nat} {g1 : Bool} {A1 : Option Addr} {n1 c1 : Nat} {e1 : Int} {g2 : Bool} {A2 : Option Addr} {n2 c2 : Nat} {e2 : Int} (h : u.heap[b]? = some (.cells #[.bool g1, .slice A1 n1 c1, .int .i64 e1, .bool g2, .slice A2 n2 c2, .int .i64 e2] t)) :
    u.cell? ⟨b, 1, none⟩ = some (.slice A1 n1 c1) ∧ u.cell? ⟨b, 2, none⟩ = some (.int .i64 e1) ∧ u.cell? ⟨b, 4, none⟩ = some (.slice A2 n2 c2) ∧ u.cell? ⟨b, 5, none⟩ = some (.int .i64 e2) :=
  ⟨by simp [World.cell?, h], by simp [World.cell?, h], by simp [World.cell?, h], by simp [World.cell?, h]⟩
theorem j15_cells (w : World) (g1 : Bool) (A1 : Option Addr) (n1 c1 : Nat) (e1 : Int) (g2 : Bool) (A2 : Option Addr) (n2 c2 : Nat) (e2 : Int) :
    (J15 w g1 A1 n1 c1 e1 g2 A2 n2 c2 e2).cell? ⟨w.heap.size + 1, 1, none⟩ = some (.slice A1 n1 c1) ∧ (J15 w g1 A1 n1 c1 e1 g2 A2 n2 c2 e2).cell? ⟨w.heap.size + 1, 2, none⟩ = some (.int .i64 e1) ∧
    (J15 w g1 A1 n1 c1 e1 g2 A2 n2 c2 e2).cell? ⟨w.heap.size + 1, 4, none⟩ = some (.slice A2 n2 c2) ∧ (J15 w g1 A1 n1 c1 e1 g2 A2 n2 c2 e2).cell? ⟨w.heap.size + 1, 5, none⟩ = some (.int .i64 e2) :=
  six_at (alloc_top _ _ _ (World.size_alloc _ _))
def Near15 (n : Nat) (e : Int) : Prop := n ≤ 10 ∧ -3000 ≤ e ∧ e ≤ 3000
instance (n : Nat) (e : Int) : Decidable (Near15 n e) := by unfold Near15; infer_instance

set_option maxHeartbeats 2000000 in
set_option maxRecDepth 20000 in
theorem near15_l (v : Bool) (g1 : Bool) (A1 : Option Addr) (n1 c1 : Nat) (e1 : Int) (g2 : Bool) (A2 : Option Addr) (n2 c2 : Nat) (e2 : Int) (w : World) (hv : Hid (decide (Near15 n1 e1 ∧ Near15 n2 e2) = v)) :
    Calls Tryd.prog 8 #[.agg #[.bool g1, .slice A1 n1 c1, .int .i64 e1, .bool g2, .slice A2 n2 c2, .int .i64 e2]] w fun e w' => e = .returned (.bool v) ∧ Below w.heap.size w w' := by
  have a2 : Below w.heap.size w (J15 w g1 A1 n1 c1 e1 g2 A2 n2 c2 e2) := ((Below.refl _ _).alloc (Nat.le_refl _) _).alloc (by simp) _
  obtain ⟨x1, x2, x4, x5⟩ := j15_cells w g1 A1 n1 c1 e1 g2 A2 n2 c2 e2
  have HS := Lib.hid a2
  have hv' := hv.out
  have HV := Lib.hid hv'
  clear a2 hv hv'
  go_enter Tryd.func8, Tryd.ntmps8
  go_wp2
  go_loop [4] (fun i => ∃ k : Nat, i = .int .i64 k ∧ Hid ((k = 0) ∨ (k = 1 ∧ Near15 n1 e1) ∨ (k = 2 ∧ Near15 n1 e1 ∧ Near15 n2 e2))) (fun i => (2 - intOf i).toNat)
  case atStart => exact ⟨0, rfl, Or.inl rfl⟩
  case round =>
    obtain ⟨k, rfl, hz⟩ := hrel
    rcases hz.out with rfl | ⟨rfl, h1⟩ | ⟨rfl, h1, h2⟩
    · by_cases a1 : n1 ≤ 10
      · have b1 : decide ((10 : Int) < (n1 : Int)) = false := decide_eq_false (by omega)
        have b1n : decide (10 < n1) = false := decide_eq_false (by omega)
        by_cases a2 : -3000 ≤ e1
        · have b2 : decide (e1 < -3000) = false := decide_eq_false (by omega)
          by_cases a3 : e1 ≤ 3000
          · have b3 : decide ((3000 : Int) < e1) = false := decide_eq_false (by omega)
            have HN : Hid (Near15 n1 e1) := ⟨a1, a2, a3⟩
            clear a1 a2 a3 hz
            go_wp2
            go_round
            case rel => exact ⟨1, by go_num, Or.inr (Or.inl ⟨rfl, HN.out⟩)⟩
            case measure => simp [intOf]
          · have b3 : decide ((3000 : Int) < e1) = true := decide_eq_true (by omega)
            obtain rfl : v = false := by rw [← HV.out]; exact decide_eq_false fun h => a3 h.1.2.2
            have Hfin := Lib.hid HS.out
            clear a1 a2 a3 hz HS HV
            go_wp2
            go_ret
            exact ⟨rfl, Hfin.out⟩
        · have b2 : decide (e1 < -3000) = true := decide_eq_true (by omega)
          obtain rfl : v = false := by rw [← HV.out]; exact decide_eq_false fun h => a2 h.1.2.1
          have Hfin := Lib.hid HS.out
          clear a1 a2 hz HS HV
          go_wp2
          go_ret
          exact ⟨rfl, Hfin.out⟩
      · have b1 : decide ((10 : Int) < (n1 : Int)) = true := decide_eq_true (by omega)
        have b1n : decide (10 < n1) = true := decide_eq_true (by omega)
        obtain rfl : v = false := by rw [← HV.out]; exact decide_eq_false fun h => a1 h.1.1
        have Hfin := Lib.hid HS.out
        clear a1 hz HS HV
        go_wp2
        go_ret
        exact ⟨rfl, Hfin.out⟩
    · by_cases a1 : n2 ≤ 10
      · have b1 : decide ((10 : Int) < (n2 : Int)) = false := decide_eq_false (by omega)
        have b1n : decide (10 < n2) = false := decide_eq_false (by omega)
        by_cases a2 : -3000 ≤ e2
        · have b2 : decide (e2 < -3000) = false := decide_eq_false (by omega)
          by_cases a3 : e2 ≤ 3000
          · have b3 : decide ((3000 : Int) < e2) = false := decide_eq_false (by omega)
            have HN : Hid (Near15 n1 e1 ∧ Near15 n2 e2) := ⟨h1, a1, a2, a3⟩
            clear a1 a2 a3 hz h1
            go_wp2
            go_round
            case rel => exact ⟨2, by go_num, Or.inr (Or.inr ⟨rfl, HN.out⟩)⟩
            case measure => simp [intOf]
          · have b3 : decide ((3000 : Int) < e2) = true := decide_eq_true (by omega)
            obtain rfl : v = false := by rw [← HV.out]; exact decide_eq_false fun h => a3 h.2.2.2
            have Hfin := Lib.hid HS.out
            clear a1 a2 a3 hz HS HV h1
            go_wp2
            go_ret
            exact ⟨rfl, Hfin.out⟩
        · have b2 : decide (e2 < -3000) = true := decide_eq_true (by omega)
          obtain rfl : v = false := by rw [← HV.out]; exact decide_eq_false fun h => a2 h.2.2.1
          have Hfin := Lib.hid HS.out
          clear a1 a2 hz HS HV h1
          go_wp2
          go_ret
          exact ⟨rfl, Hfin.out⟩
      · have b1 : decide ((10 : Int) < (n2 : Int)) = true := decide_eq_true (by omega)
        have b1n : decide (10 < n2) = true := decide_eq_true (by omega)
        obtain rfl : v = false := by rw [← HV.out]; exact decide_eq_false fun h => a1 h.2.1
        have Hfin := Lib.hid HS.out
        clear a1 hz HS HV h1
        go_wp2
        go_ret
        exact ⟨rfl, Hfin.out⟩
    · obtain rfl : v = true := by rw [← HV.out]; exact decide_eq_true ⟨h1, h2⟩
      have Hfin := Lib.hid HS.out
      clear hz HS HV h1 h2
      go_wp2
      go_ret
      exact ⟨rfl, Hfin.out⟩
/-- A struct of two dyads as an interval. -/
theorem of15_l (g1 : Bool) (A1 : Option Addr) (n1 c1 : Nat) (e1 : Int) (g2 : Bool) (A2 : Option Addr) (n2 c2 : Nat) (e2 : Int) (w : World) :
    Calls Tryd.prog 12 #[.agg #[.bool g1, .slice A1 n1 c1, .int .i64 e1, .bool g2, .slice A2 n2 c2, .int .i64 e2]] w fun e w' => e = .returned (.agg #[.bool g1, .slice A1 n1 c1, .int .i64 e1, .bool g2, .slice A2 n2 c2, .int .i64 e2]) ∧ Below w.heap.size w w' := by
  have Hfin : Hid (Below w.heap.size w ((w.alloc (.cells #[.bool g1, .slice A1 n1 c1, .int .i64 e1, .bool g2, .slice A2 n2 c2, .int .i64 e2] 26)).alloc (.cells #[.bool g1, .slice A1 n1 c1, .int .i64 e1, .bool g2, .slice A2 n2 c2, .int .i64 e2] 38))) := ((Below.refl _ _).alloc (Nat.le_refl _) _).alloc (by simp) _
  go_enter Tryd.func12, Tryd.ntmps12
  go_wp2
  exact bodyPost_ret (v := .agg #[.bool g1, .slice A1 n1 c1, .int .i64 e1, .bool g2, .slice A2 n2 c2, .int .i64 e2]) (by simp [results, Tryd.results12, go_sem]) rfl ⟨rfl, Hfin.out⟩
end Go.Proofs.YtafgooiakmmfkaaDoor
