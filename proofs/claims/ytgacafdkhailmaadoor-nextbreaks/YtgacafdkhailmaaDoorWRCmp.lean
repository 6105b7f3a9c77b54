/- The walks of planimeterref01.Cmp and of nat.Bare. -/
import Derived.Test.YtgacafdkhailmaaDoorWRAdd
import Derived.Laws.CopyOwn
namespace Go.Proofs.YtgacafdkhailmaaDoor
open Go.RowKit

set_option maxHeartbeats 2000000 in
theorem rcmp_any (A : Option Addr) (n c : Nat) (us : List Nat) (B : Option Addr) (m d : Nat) (bs : List Nat) (w : World) (hA : Dig w A n c us) (hB : Dig w B m d bs) (ba : D.Bare us) (bb : D.Bare bs) (hn : n ≤ 1000000) (hm : m ≤ 1000000) :
    Calls Tryd.prog 79 #[.slice A n c, .slice B m d] w fun e w' => e = .returned (.int .i64 (cmpZ (D.val us) (D.val bs))) ∧ ∃ q, w' = w.drewN q := by
  have hta : D.tl us = n := by rw [ba, hA.len]
  have htb : D.tl bs = m := by rw [bb, hB.len]
  rcases Nat.lt_trichotomy n m with hlt | heq | hgt
  · have HV := Lib.hid (cmpZ_lt (D.val_lt_of_tl_lt (ys := bs) hA.words (by omega)))
    have b1 : ((n : Int) != (m : Int)) = true := by rw [bne_iff_ne]; omega
    have b2 : decide (n < m) = true := by simp; omega
    clear hta htb hA hB ba bb
    go_enter Tryd.func79, Tryd.ntmps79
    go_wp2
    go_ret
    exact ⟨by rw [HV.out]; rfl, 0, rfl⟩
  · subst heq
    have HA := Lib.hid hA
    have HB := Lib.hid hB
    clear hta htb hA hB ba bb
    have b1 : ((n : Int) != (n : Int)) = false := by simp
    go_enter Tryd.func79, Tryd.ntmps79
    go_wp2
    clear b1
    go_loopw [5] (fun i wr => ∃ k q : Nat, k ≤ n ∧ i = .int .i64 ((k : Int) - 1) ∧ wr = w.drewN q ∧ Hid (∀ j, k ≤ j → j < n → us.getD j 0 = bs.getD j 0)) (fun i _ => (intOf i + 1).toNat)
    case atStart => exact ⟨n, 0, Nat.le_refl _, rfl, rfl, fun j h1 h2 => by omega⟩
    case round =>
      obtain ⟨k, q, hk, rfl, rfl, hz⟩ := hrel
      have Hfa : Hid (us.take n = us) := List.take_of_length_le (by rw [HA.out.len]; exact Nat.le_refl _)
      have Hfb : Hid (bs.take n = bs) := List.take_of_length_le (by rw [HB.out.len]; exact Nat.le_refl _)
      cases k with
      | zero =>
        have HV := Lib.hid (cmpZ_eq (show D.val us = D.val bs by rw [← Hfa.out, ← Hfb.out]; exact D.take_congr (fun j hj => hz.out j (Nat.zero_le _) hj)))
        go_wp2
        go_ret
        exact ⟨by rw [HV.out]; rfl, q, rfl⟩
      | succ k =>
        rw [show (((k + 1 : Nat) : Int) - 1) = (k : Int) from by omega]
        obtain ⟨b, o, rfl, hb, hcl⟩ := HA.out.at_ (by omega)
        have c1 := hcl k (by omega)
        clear hcl
        obtain ⟨b', o', rfl, hb', hcl⟩ := HB.out.at_ (by omega)
        have c2 := hcl k (by omega)
        clear hcl
        obtain ⟨x, hx⟩ : ∃ x, us.getD k 0 = x := ⟨_, rfl⟩
        obtain ⟨y, hy⟩ : ∃ y, bs.getD k 0 = y := ⟨_, rfl⟩
        rw [hx] at c1
        rw [hy] at c2
        have Hx := Lib.hid hx
        have Hy := Lib.hid hy
        clear hx hy
        have hk1 : (k : Int) < (n : Int) := by omega
        rcases Nat.lt_trichotomy x y with hlt | heq | hgt
        · have b4 : decide (x < y) = true := by simp; omega
          have HV := Lib.hid (cmpZ_lt (show D.val us < D.val bs by
            rw [← Hfa.out, ← Hfb.out]
            exact D.val_lt_of_digit HA.out.words (i := k) (by omega) (by have := HA.out.len; omega) (by have := HB.out.len; omega) (fun j h1 h2 => hz.out j (by omega) h2) (by rw [Hx.out, Hy.out]; exact hlt)))
          go_wp2
          go_quiet (fail)
          go_wp2
          go_ret
          exact ⟨by rw [HV.out]; rfl, _, by first | rfl | (simp only [World.drewN_drewN]; rfl)⟩
        · subst heq
          have b4 : decide (x < x) = false := by simp
          go_wp2
          go_quiet (fail)
          go_wp2
          go_quiet (fail)
          go_wp2
          go_roundw
          case rel => exact ⟨k, _, by omega, by go_num, by first | rfl | (simp only [World.drewN_drewN]; rfl), fun j h1 h2 => by
            by_cases e : j = k
            · rw [e, Hx.out, Hy.out]
            · exact hz.out j (by omega) h2⟩
          case measure => simp [intOf]
        · have b4 : decide (x < y) = false := by simp; omega
          have b5 : decide (y < x) = true := by simp; omega
          have HV := Lib.hid (cmpZ_gt (show D.val bs < D.val us by
            rw [← Hfa.out, ← Hfb.out]
            exact D.val_lt_of_digit HB.out.words (i := k) (by omega) (by have := HB.out.len; omega) (by have := HA.out.len; omega) (fun j h1 h2 => (hz.out j (by omega) h2).symm) (by rw [Hx.out, Hy.out]; exact hgt)))
          go_wp2
          go_quiet (fail)
          go_wp2
          go_quiet (fail)
          go_wp2
          go_ret
          exact ⟨by rw [HV.out]; rfl, _, by first | rfl | (simp only [World.drewN_drewN]; rfl)⟩
  · have HV := Lib.hid (cmpZ_gt (D.val_lt_of_tl_lt (ys := us) hB.words (by omega)))
    have b1 : ((n : Int) != (m : Int)) = true := by rw [bne_iff_ne]; omega
    have b2 : decide (n < m) = false := by simp; omega
    clear hta htb hA hB ba bb
    go_enter Tryd.func79, Tryd.ntmps79
    go_wp2
    go_ret
    exact ⟨by rw [HV.out]; rfl, 0, rfl⟩

theorem size64 : (Tryd.prog.info? 22).map (·.size) = some 1 := by kernel_rfl


end Go.Proofs.YtgacafdkhailmaaDoor
