/- The walks of nat.trim, nat.at, nat.order. -/
import Derived.Test.YtgacafdkhailmaaDoorProg
import Derived.Test.YtgacafdkhailmaaDoorMem
import Derived.WalkKit
namespace Go.Proofs.YtgacafdkhailmaaDoor
open Go.RowKit

set_option maxHeartbeats 400000 in
theorem trim_any (A : Option Addr) (n c : Nat) (xs : List Nat) (w : World) (h : Lim w A n c xs) (hn : n ≤ 4398046511104) :
    Calls Tryd.prog 71 #[.slice A n c] w fun e w' => e = .returned (.slice A (tl xs) c) ∧ w = w' := by
  obtain ⟨hl, hc, hw, hcell⟩ := h
  have Hcell := Lib.hid hcell
  have Hl := Lib.hid hl
  clear hcell hl hw
  go_enter Tryd.func71, Tryd.ntmps71
  go_wp2
  go_loop [3] (fun i => ∃ k : Nat, k ≤ n ∧ i = .int .i64 k ∧ Hid (∀ j, k ≤ j → j < xs.length → xs.getD j 0 = 0)) (fun i => (intOf i).toNat)
  case atStart => exact ⟨n, Nat.le_refl _, rfl, fun j h1 h2 => by have := Hl.out; omega⟩
  case round =>
    obtain ⟨k, hk, rfl, hz⟩ := hrel
    cases k with
    | zero =>
      have H := Lib.hid (tl_eq (k := 0) (xs := xs) hz.out (fun j hj => by omega))
      go_wp2
      go_ret
      exact ⟨by rw [H.out]; rfl, rfl⟩
    | succ k =>
      obtain ⟨b, o, rfl, hb, hcl⟩ := Hcell.out (by omega)
      have c1 := hcl k (by omega)
      clear hcl
      have hx0 : ∃ x, x = xs.getD k 0 := ⟨_, rfl⟩
      obtain ⟨x, hx⟩ := hx0
      rw [← hx] at c1
      have Hx := Lib.hid hx
      clear hx
      by_cases h0 : x = 0
      · subst h0
        go_wp2
        go_round
        case rel => exact ⟨k, by omega, by go_num, fun j h1 h2 => by
          by_cases e : j = k
          · rw [e]; exact Hx.out.symm
          · exact hz.out j (by omega) h2⟩
        case measure => simp [intOf]
      · have hb0 : ((x : Int) == 0) = false := beq_eq_false_iff_ne.2 (by omega)
        have H := Lib.hid (tl_eq (k := k + 1) (xs := xs) hz.out (fun j hj => by obtain rfl : j = k := (by omega); rw [← Hx.out]; exact h0))
        clear h0
        go_wp2
        go_ret
        exact ⟨by rw [H.out]; rfl, rfl⟩

theorem at_any (A : Option Addr) (n c : Nat) (xs : List Nat) (i : Nat) (w : World) (h : Lim w A n c xs) (hn : n ≤ 4398046511104) (hi : i ≤ 4398046511104) :
    Calls Tryd.prog 73 #[.slice A n c, .int .i64 (i : Int)] w fun e w' => e = .returned (.int .u64 ((xs.getD i 0 : Nat) : Int)) ∧ w = w' := by
  obtain ⟨hl, hc, hw, hcell⟩ := h
  have Hl := Lib.hid hl
  clear hl hw
  obtain ⟨x, hx⟩ : ∃ x, x = xs.getD i 0 := ⟨_, rfl⟩
  rw [← hx]
  have Hx := Lib.hid hx
  clear hx
  by_cases hlt : i < n
  · obtain ⟨b, o, rfl, hb, hcl⟩ := hcell (by omega)
    have c1 := hcl i hlt
    rw [← Hx.out] at c1
    clear hcl hcell
    go_enter Tryd.func73, Tryd.ntmps73
    go_wp2
    go_ret
    exact ⟨rfl, rfl⟩
  · have H0 : Hid (x = 0) := Hx.out.trans (by rw [List.getD_eq_getElem?_getD, List.getElem?_eq_none (by have := Hl.out; omega)]; rfl)
    clear hcell
    go_enter Tryd.func73, Tryd.ntmps73
    go_wp2
    go_ret
    exact ⟨by rw [H0.out]; rfl, rfl⟩

theorem order_true (w : World) : Calls Tryd.prog 84 #[.bool true] w fun e w' => e = .returned (.int .i64 (-1)) ∧ w = w' := by
  go_enter Tryd.func84, Tryd.ntmps84
  go_wp2
  go_ret
  exact ⟨rfl, rfl⟩
theorem order_false (w : World) : Calls Tryd.prog 84 #[.bool false] w fun e w' => e = .returned (.int .i64 1) ∧ w = w' := by
  go_enter Tryd.func84, Tryd.ntmps84
  go_wp2
  go_ret
  exact ⟨rfl, rfl⟩
end Go.Proofs.YtgacafdkhailmaaDoor
