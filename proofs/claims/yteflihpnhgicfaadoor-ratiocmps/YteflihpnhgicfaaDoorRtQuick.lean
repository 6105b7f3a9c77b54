/- The walk of planimeterref02.Quick: a power by halves. -/
import Derived.Test.YteflihpnhgicfaaDoorK1
namespace Go.Proofs.YteflihpnhgicfaaDoor
open Go.RowKit

theorem DTells.fit {w w' : World} {V L M : Nat} {e : Ending} (h : DTells w V L e w') (hM : V < D.pw M) : DTells w V M e w' := by
  obtain ⟨A, m, c, zs, h1, h2, h3, h4, h5, h6⟩ := h
  refine ⟨A, m, c, zs, h1, ?_, h3, h4, h5, h6⟩
  rw [← h3.len]
  exact D.len_of_lt h4 (by rw [h5]; exact hM)

set_option maxHeartbeats 1000000 in
theorem quick_any (M : Nat) (hM : M ≤ 10000) (k : Nat) : ∀ (A : Option Addr) (n c : Nat) (us : List Nat) (w : World), Dig w A n c us → 1 ≤ D.val us → n ≤ 10000 → k ≤ 1000000000 → D.val us ^ k < D.pw M →
    Calls Tryd.prog 35 #[.slice A n c, .int .i64 (k : Int)] w (DTells w (D.val us ^ k) M) := by
  induction k using Nat.strongRecOn with
  | _ k ih =>
    intro A n c us w hA hX hn hk hlt
    by_cases h0 : k = 0
    · subst h0
      have H1 := Lib.hid ((num_any 1 (by decide) w).mono fun _ _ h => h.fit (M := M) (by rw [Nat.pow_zero] at hlt; exact hlt))
      clear ih hA hlt
      go_enter Tryd.func35, Tryd.ntmps35
      go_wp2_with fail
      refine H1.out.mono ?_
      rintro e w1 ⟨A1, m1, c1, es, rfl, h1, h2, h3, h4, h5⟩
      have Hfin : Hid (DTells w (D.val us ^ 0) M (.returned (.slice A1 m1 c1)) w1) := ⟨A1, m1, c1, es, rfl, h1, h2, h3, by rw [Nat.pow_zero]; exact h4, h5⟩
      clear h2 h3 h4 h5 H1
      go_wp2
      go_ret
      exact Hfin.out
    · have b0 : ((k : Int) == 0) = false := beq_eq_false_iff_ne.2 (by omega)
      obtain ⟨X, hXe⟩ : ∃ X, D.val us = X := ⟨_, rfl⟩
      rw [hXe] at hX hlt
      obtain ⟨h, hh⟩ : ∃ h, k / 2 = h := ⟨_, rfl⟩
      have e1 : (k : Int) / 2 = (h : Int) := by omega
      have l1 : X ^ h < D.pw M := Nat.lt_of_le_of_lt (Nat.pow_le_pow_right hX (by omega)) hlt
      have l2 : X ^ (2 * h) < D.pw M := Nat.lt_of_le_of_lt (Nat.pow_le_pow_right hX (by omega)) hlt
      have H1 := ih h (by omega) A n c us w hA (by rw [hXe]; exact hX) hn (by omega) (by rw [hXe]; exact l1)
      rw [hXe] at H1 ⊢
      replace H1 := Lib.hid H1
      have HA := Lib.hid hA
      have HX := Lib.hid hXe
      have L2 := Lib.hid l2
      have Llt := Lib.hid hlt
      clear ih hA hXe l1 l2 hlt
      go_enter Tryd.func35, Tryd.ntmps35
      go_wp2_with fail
      refine H1.out.mono ?_
      rintro e w1 ⟨A1, m1, c1, es, rfl, hm1, h2, h3, h4, h5⟩
      have hR := (rmul_any A1 m1 c1 es A1 m1 c1 es w1 h2 h2 (by omega) (by omega)).mono fun _ _ h9 => h9.fit (M := M) (by rw [h4, ← Nat.pow_add, show h + h = 2 * h by omega]; exact L2.out)
      rw [h4, ← Nat.pow_add, show h + h = 2 * h by omega] at hR
      have HR := Lib.hid hR
      have HB := Lib.hid h5
      clear hR h2 h3 h4 h5 H1 L2
      go_wp2_with fail
      refine HR.out.mono ?_
      rintro e w2 ⟨A2, m2, c2, fs, rfl, hm2, g2, g3, g4, g5⟩
      have s2 := HB.out.trans (g5.mono HB.out.size)
      by_cases hr : k % 2 = 1
      · have e2 : (k : Int) % 2 = 1 := by omega
        have hk2 : (2 * h).succ = k := by omega
        have hR2 := (rmul_any A2 m2 c2 fs A n c us w2 g2 (HA.out.below s2) (by omega) (by omega)).mono fun _ _ h9 => h9.fit (M := M) (by rw [g4, HX.out, ← Nat.pow_succ, hk2]; exact Llt.out)
        rw [g4, HX.out, ← Nat.pow_succ, hk2] at hR2
        have HR2 := Lib.hid hR2
        have HS := Lib.hid s2
        clear hR2 g2 g3 g4 g5 HR HB s2 HA HX Llt hh hk2 hr
        go_wp2_with fail
        refine HR2.out.mono ?_
        rintro e w3 ⟨A3, m3, c3, gs, rfl, hm3, q2, q3, q4, q5⟩
        have Hfin : Hid (DTells w (X ^ k) M (.returned (.slice A3 m3 c3)) w3) := ⟨A3, m3, c3, gs, rfl, hm3, q2, q3, q4, HS.out.trans (q5.mono HS.out.size)⟩
        clear q2 q3 q4 q5 HR2 HS
        go_wp2
        go_ret
        exact Hfin.out
      · have e2 : (k : Int) % 2 = 0 := by omega
        have hk2 : 2 * h = k := by omega
        have Hfin : Hid (DTells w (X ^ k) M (.returned (.slice A2 m2 c2)) w2) := ⟨A2, m2, c2, fs, rfl, hm2, g2, g3, by rw [g4, hk2], s2⟩
        clear g2 g3 g4 g5 HR HB s2 HA HX Llt hh hk2 hr
        go_wp2
        go_ret
        exact Hfin.out
end Go.Proofs.YteflihpnhgicfaaDoor
