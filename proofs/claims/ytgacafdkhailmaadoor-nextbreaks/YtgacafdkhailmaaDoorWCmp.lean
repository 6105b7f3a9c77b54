/- The walk of nat.Cmp: the order of any two numbers. -/
import Derived.Test.YtgacafdkhailmaaDoorWTrim
import Derived.BigQuiet
import Derived.Deep.QuietTactic
namespace Go.Proofs.YtgacafdkhailmaaDoor
open Go.RowKit

theorem trim_to (m : Nat) (A : Option Addr) (n c : Nat) (xs : List Nat) (w : World) (h : Lim w A n c xs) (hn : n ≤ 4398046511104) (hm : Hid (tl xs = m)) :
    Calls Tryd.prog 71 #[.slice A n c] w fun e w' => e = .returned (.slice A m c) ∧ w = w' := by
  rw [← hm.out]; exact trim_any A n c xs w h hn

/-- A callee that leaves the world alone, in a quiet region behind other draws. -/
theorem quiet_more {P : Program} {f : FuncId} {args : Array Value} {w : World} {a n : Nat} {v : Value}
    (h : Calls P f args (w.drewN (a + n)) fun e w' => e = .returned v ∧ w.drewN (a + n) = w') : Calls P f args (w.drewN (a + n)) fun e w'' => e = .returned v ∧ ∃ m, w'' = w.drewN (a + m) :=
  h.mono fun _ _ ⟨he, hm⟩ => ⟨he, n, hm.symm⟩

set_option maxHeartbeats 1000000 in
theorem cmp_any (A : Option Addr) (n c : Nat) (xs : List Nat) (B : Option Addr) (m d : Nat) (ys : List Nat) (w : World) (hA : Lim w A n c xs) (hB : Lim w B m d ys) (hn : n ≤ 1099511627776) (hm : m ≤ 1099511627776) :
    Calls Tryd.prog 74 #[.slice A n c, .slice B m d] w fun e w' => e = .returned (.int .i64 (cmpZ (val xs) (val ys))) ∧ ∃ q, w' = w.drewN q := by
  have hwx := hA.words
  have hwy := hB.words
  have tlx := hA.tl_le
  have tly := hB.tl_le
  rcases Nat.lt_trichotomy (tl xs) (tl ys) with hlt | heq | hgt
  · have HV := Lib.hid (cmpZ_lt (val_lt_of_tl_lt hwx hlt))
    clear hwx hwy
    obtain ⟨l, hl⟩ : ∃ l, tl xs = l := ⟨_, rfl⟩
    obtain ⟨k, hk⟩ : ∃ k, tl ys = k := ⟨_, rfl⟩
    rw [hl] at hlt tlx
    rw [hk] at hlt tly
    have Hl := Lib.hid hl
    have Hk := Lib.hid hk
    clear hl hk
    have b1 : ((l : Int) != (k : Int)) = true := by rw [bne_iff_ne]; omega
    have b2 : decide (l < k) = true := by simp; omega
    go_enter Tryd.func74, Tryd.ntmps74
    go_wp2_with fail
    refine (trim_to l A n c xs _ hA (by omega) Hl).mono ?_
    rintro e w' ⟨rfl, rfl⟩
    go_wp2_with fail
    refine (trim_to k B m d ys _ hB (by omega) Hk).mono ?_
    rintro e w' ⟨rfl, rfl⟩
    go_wp2_with fail
    refine (order_true _).mono ?_
    rintro e w' ⟨rfl, rfl⟩
    go_wp2
    go_ret
    exact ⟨by rw [HV.out]; rfl, 0, rfl⟩
  · obtain ⟨l, hk⟩ : ∃ l, tl ys = l := ⟨_, rfl⟩
    have hl : tl xs = l := heq.trans hk
    have HVx := Lib.hid (val_take_tl xs)
    have HVy := Lib.hid (val_take_tl ys)
    rw [hl] at HVx tlx
    rw [hk] at HVy tly
    have Hl := Lib.hid hl
    have Hk := Lib.hid hk
    have Hlx := Lib.hid hA.len
    have Hly := Lib.hid hB.len
    have Hwx := Lib.hid hwx
    have Hwy := Lib.hid hwy
    have Hax := Lib.hid (hA.2.2.2)
    have Hay := Lib.hid (hB.2.2.2)
    clear heq hl hk hwx hwy
    have b1 : ((l : Int) != (l : Int)) = false := by simp
    go_enter Tryd.func74, Tryd.ntmps74
    go_wp2_with fail
    refine (trim_to l A n c xs _ hA (by omega) Hl).mono ?_
    rintro e w' ⟨rfl, rfl⟩
    go_wp2_with fail
    refine (trim_to l B m d ys _ hB (by omega) Hk).mono ?_
    rintro e w' ⟨rfl, rfl⟩
    go_wp2_with fail
    clear b1 hA hB
    go_loopw [5] (fun i wr => ∃ k q : Nat, k ≤ l ∧ i = .int .i64 ((k : Int) - 1) ∧ wr = w.drewN q ∧ Hid (∀ j, k ≤ j → j < l → xs.getD j 0 = ys.getD j 0)) (fun i _ => (intOf i + 1).toNat)
    case atStart => exact ⟨l, 0, Nat.le_refl _, rfl, rfl, fun j h1 h2 => by omega⟩
    case round =>
      obtain ⟨k, q, hk, rfl, rfl, hz⟩ := hrel
      cases k with
      | zero =>
        have HV := Lib.hid (cmpZ_eq (HVx.out.symm.trans ((take_congr (fun j hj => hz.out j (Nat.zero_le _) hj)).trans HVy.out)))
        go_wp2
        go_ret
        exact ⟨by rw [HV.out]; rfl, q, rfl⟩
      | succ k =>
        rw [show (((k + 1 : Nat) : Int) - 1) = (k : Int) from by omega]
        obtain ⟨b, o, rfl, hb, hcl⟩ := Hax.out (by omega)
        have c1 := hcl k (by omega)
        clear hcl
        obtain ⟨b', o', rfl, hb', hcl⟩ := Hay.out (by omega)
        have c2 := hcl k (by omega)
        clear hcl
        obtain ⟨x, hx⟩ : ∃ x, xs.getD k 0 = x := ⟨_, rfl⟩
        obtain ⟨y, hy⟩ : ∃ y, ys.getD k 0 = y := ⟨_, rfl⟩
        rw [hx] at c1
        rw [hy] at c2
        have Hx := Lib.hid hx
        have Hy := Lib.hid hy
        clear hx hy
        have hk1 : (k : Int) < (l : Int) := by omega
        rcases Nat.lt_trichotomy x y with hlt | heq | hgt
        · have b3 : ((x : Int) != (y : Int)) = true := by rw [bne_iff_ne]; omega
          have b4 : decide (x < y) = true := by simp; omega
          have HV := Lib.hid (cmpZ_lt (show val xs < val ys by
            rw [← HVx.out, ← HVy.out]
            exact val_lt_of_digit Hwx.out (i := k) (by omega) (by have := Hlx.out; omega) (by have := Hly.out; omega) (fun j h1 h2 => hz.out j (by omega) h2) (by rw [Hx.out, Hy.out]; exact hlt)))
          go_wp2
          go_quiet (fail)
          go_wp2
          go_quiet ((go_at_call 84; exact quiet_more (order_true _)))
          go_wp2
          go_ret
          exact ⟨by rw [HV.out]; rfl, _, by simp only [World.drewN_drewN]; rfl⟩
        · subst heq
          have b3 : ((x : Int) != (x : Int)) = false := by simp
          go_wp2
          go_quiet (fail)
          go_wp2
          go_roundw
          case rel => exact ⟨k, _, by omega, by go_num, rfl, fun j h1 h2 => by
            by_cases e : j = k
            · rw [e, Hx.out, Hy.out]
            · exact hz.out j (by omega) h2⟩
          case measure => simp [intOf]
        · have b3 : ((x : Int) != (y : Int)) = true := by rw [bne_iff_ne]; omega
          have b4 : decide (x < y) = false := by simp; omega
          have HV := Lib.hid (cmpZ_gt (show val ys < val xs by
            rw [← HVx.out, ← HVy.out]
            exact val_lt_of_digit Hwy.out (i := k) (by omega) (by have := Hly.out; omega) (by have := Hlx.out; omega) (fun j h1 h2 => (hz.out j (by omega) h2).symm) (by rw [Hx.out, Hy.out]; exact hgt)))
          go_wp2
          go_quiet (fail)
          go_wp2
          go_quiet ((go_at_call 84; exact quiet_more (order_false _)))
          go_wp2
          go_ret
          exact ⟨by rw [HV.out]; rfl, _, by simp only [World.drewN_drewN]; rfl⟩
  · have HV := Lib.hid (cmpZ_gt (val_lt_of_tl_lt hwy hgt))
    clear hwx hwy
    obtain ⟨l, hl⟩ : ∃ l, tl xs = l := ⟨_, rfl⟩
    obtain ⟨k, hk⟩ : ∃ k, tl ys = k := ⟨_, rfl⟩
    rw [hl] at hgt tlx
    rw [hk] at hgt tly
    have Hl := Lib.hid hl
    have Hk := Lib.hid hk
    clear hl hk
    have b1 : ((l : Int) != (k : Int)) = true := by rw [bne_iff_ne]; omega
    have b2 : decide (l < k) = false := by simp; omega
    go_enter Tryd.func74, Tryd.ntmps74
    go_wp2_with fail
    refine (trim_to l A n c xs _ hA (by omega) Hl).mono ?_
    rintro e w' ⟨rfl, rfl⟩
    go_wp2_with fail
    refine (trim_to k B m d ys _ hB (by omega) Hk).mono ?_
    rintro e w' ⟨rfl, rfl⟩
    go_wp2_with fail
    refine (order_false _).mono ?_
    rintro e w' ⟨rfl, rfl⟩
    go_wp2
    go_ret
    exact ⟨by rw [HV.out]; rfl, 0, rfl⟩
end Go.Proofs.YtgacafdkhailmaaDoor
